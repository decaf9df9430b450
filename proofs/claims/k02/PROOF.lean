import PyProof.Rows.All
import Wide.All
import OpenK.AllK
import Wide.FinOn
import HandS.ForMost
import HandS.ForExc
import HandS.Walk
import HandS.Defaults
import HandS.Wide
import HandS.WideBits
import HandS.Conv
import HandS.TupAny
import HandS.TupMul
import HandS.Text
import HandS.Dict
import HandS.IsInst
import HandS.Deep
import HandS.Flow
import HandS.TupLe
import HandS.Comp
import KE.GoesEnumKw
import HandS.More
import HandS.Small
import HandS.EndBits
import KE.BitLaws
import HandS.TryOnly
import HandS.ExcValue
import HandS.ExcField
import KE.KExcIs
import HandS.ExcInit
import HandS.DictComp
import HandS.Zip
import PyProof.Rows.StrMeet
import PyProof.EqKinds
import PyProof.Slots
import PyProof.Dict
import KE.KEqDict
import KE.KEqNest
import PyProof.EqAt
import PyProof.SeqRoads2
import PyProof.MeetsIn
import PyProof.NeKinds
import KE.DataEq
import PyProof.AutoListH
import PyProof.ListMulRoad
import KE.DataMinMax
import HandS.SetKeys
import HandS.SortInts
import PyProof.CallFns
import HandS.Style
import PyProof.ReprReads
import PyProof.ReprRoads
import PyProof.ReprLen
import PyProof.FitsInt
import PySem.Challenge.RW_letterbench_k02_sums_of_bytes
set_option Elab.async false
set_option linter.all false
set_option maxRecDepth 100000
section
/-! Mi, first part: values as data, cells that change, how both lie in the abstract heap. -/
namespace Mi
open PySem PySem.Spec PyProof.Rows L2

inductive D where
  | non
  | bl (b : Bool)
  | int (i : Int)
  | str (x : Str)
  | ty (n : String)
  | adr (a : Addr)
  | ref (l : Nat)
  | tup (ds : List D)
  | lst (ds : List D)
  | dct (ks : List Key) (ds : List D)
  /-- a def of the text, by its name -/
  | fn (n : Str)
  /-- an exception that was caught: its class's name; its own fields, if it has a dict -/
  | exo (c : Str) (hd : Bool) (ks : List Str) (ds : List D)

/-- the class of this name, of the text or built in -/
def CN (K : PySem.W.Frag) (c : Str) (cv : Value) : Prop := PySem.W.nsIn K mainGlobals c = some (some cv) ∨ (PySem.W.nsIn K mainGlobals c = some none ∧ bootBuiltins c = some cv)
theorem CN.uniq {K : PySem.W.Frag} {c : Str} {u v : Value} (h : CN K c u) (g : CN K c v) : u = v := by
  rcases h with h | ⟨h, h2⟩ <;> rcases g with g | ⟨g, g2⟩
  · rw [h] at g; exact Option.some.inj (Option.some.inj g)
  · rw [h] at g; cases g
  · rw [h] at g; cases g
  · rw [h2] at g2; exact Option.some.inj g2
/-- at a: an exception of the class cv, its dict at d -/
def ExV (cv : Value) (d : Option Addr) (a : Addr) : HO := .ext fun h => ∃ (oe : Obj) (vs : Array Value), h.get? a = some oe ∧ Zc cv d oe ∧ oe.data = .fields vs

/-- a cell: a list, a dict, an instance that may change; gone: told away as a plain value -/
inductive MO where
  | lst (ds : List D)
  | dct (kvs : List (Key × D))
  | ins (C : Str) (fs : List (Str × D))
  | gone
abbrev MH := List MO
/-- where the cells lie; c: by number; h: lists that are being made out of sight -/
structure Rho where
  c : List (Option Addr)
  h : List Addr

/-- at a: a dict that nothing changes any more -/
def Lk (H : Hp) (a : Addr) (kvs : List (Key × V)) : Prop := ∃ o, H a = some (.frz o (.dK kvs))
theorem Lk.rd {H : Hp} {a : Addr} {kvs : List (Key × V)} (h : Lk H a kvs) : Rd H a (.dK kvs) := .inr h
/-- a list read, not a cell's -/
def LsV (K : PySem.W.Frag) (ρ : Rho) (H : Hp) (a : Addr) (xs : List V) : Prop := (Rd H a (.lst xs) ∧ some a ∉ ρ.c ∧ a ∉ ρ.h) ∨ SqL K (fun _ => none) a xs
mutual
def Den (K : PySem.W.Frag) (ρ : Rho) (H : Hp) : D → V → Prop
  | .non, v => v = .non
  | .bl b, v => v = .bl b
  | .int i, v => v = .int i
  | .str x, v => v = .str x
  | .ty n, v => v = .ty n
  | .adr a, v => v = .ref a
  | .ref l, v => ∃ a o, v = .ref a ∧ ρ.c[l]? = some o ∧ ∀ b, o = some b → b = a
  | .tup ds, v => ∃ a xs, v = .ref a ∧ SqT K H a xs ∧ Dens K ρ H ds xs
  | .lst ds, v => ∃ a xs, v = .ref a ∧ LsV K ρ H a xs ∧ Dens K ρ H ds xs
  | .dct ks ds, v => ∃ a kvs, v = .ref a ∧ Lk H a kvs ∧ some a ∉ ρ.c ∧ kvs.map (·.1) = ks ∧ Dens K ρ H ds (kvs.map (·.2))
  | .fn n, v => ∃ a, PySem.W.nsIn K mainGlobals n = some (some (.ref a)) ∧ v = .ref a
  | .exo c hd ks ds, v => ∃ a cv d, v = .ref a ∧ CN K c cv ∧ H a = some (ExV cv d a) ∧ (hd = false ∧ d = none ∨ hd = true ∧ ∃ dd gs, d = some dd ∧ H dd = some (.xd gs) ∧ gs.map (·.1) = ks ∧ Dens K ρ H ds (gs.map (·.2)))
def Dens (K : PySem.W.Frag) (ρ : Rho) (H : Hp) : List D → List V → Prop
  | [], vs => vs = []
  | d :: ds, vs => ∃ v r, vs = v :: r ∧ Den K ρ H d v ∧ Dens K ρ H ds r
end

def DenP {κ : Type} (K : PySem.W.Frag) (ρ : Rho) (H : Hp) : List (κ × D) → List (κ × V) → Prop := Paired fun p q => p.1 = q.1 ∧ Den K ρ H p.2 q.2

def ObjD (K : PySem.W.Frag) (ρ : Rho) (H : Hp) (l : Nat) : MO → Prop
  | .lst ds => ∃ a xs, ρ.c[l]? = some (some a) ∧ H a = some (.lst xs) ∧ Dens K ρ H ds xs
  | .dct kvs => ∃ a ks, ρ.c[l]? = some (some a) ∧ H a = some (.dK ks) ∧ DenP K ρ H kvs ks
  | .ins C fs => ∃ a Ca dx gs, ρ.c[l]? = some (some a) ∧ CN K C (.ref Ca) ∧ H a = some (.ins Ca dx gs) ∧ DenP K ρ H fs gs
  | .gone => ρ.c[l]? = some none

structure Rel (K : PySem.W.Frag) (ρ : Rho) (M : MH) (H : Hp) : Prop where
  len : ρ.c.length = M.length
  hid : ∀ a ∈ ρ.h, some a ∉ ρ.c ∧ ∃ xs, H a = some (.lst xs)
  inj : ∀ (i j : Nat) (a : Addr), ρ.c[i]? = some (some a) → ρ.c[j]? = some (some a) → i = j
  obj : ∀ (l : Nat) (o : MO), M[l]? = some o → ObjD K ρ H l o

/-- what may become of the heap: cells change, cells are told away, new ones come -/
structure Stp (ρ : Rho) (H : Hp) (ρ' : Rho) (H' : Hp) : Prop where
  pre : ∀ (l : Nat) (o : Option Addr), ρ.c[l]? = some o → ρ'.c[l]? = some o ∨ ρ'.c[l]? = some none
  new : ∀ a : Addr, some a ∈ ρ'.c → some a ∈ ρ.c ∨ H a = none
  keep : ∀ (a : Addr) (o : HO), H a = some o → some a ∉ ρ.c → H' a = some o
  hid : ρ'.h = ρ.h

theorem mem_of_get {ρ : Rho} {l : Nat} {a : Addr} (h : ρ.c[l]? = some (some a)) : some a ∈ ρ.c := List.mem_of_getElem? h
theorem Rel.kind {K : PySem.W.Frag} {ρ : Rho} {M : MH} {H : Hp} (R : Rel K ρ M H) {a : Addr} (h : some a ∈ ρ.c) : (∃ xs, H a = some (.lst xs)) ∨ (∃ ks, H a = some (.dK ks)) ∨ ∃ C dx gs, H a = some (.ins C dx gs) := by
  obtain ⟨l, hl⟩ := List.getElem?_of_mem h
  have hm : l < M.length := by
    rw [← R.len]
    exact (List.getElem?_eq_some_iff.mp hl).1
  have q := R.obj l M[l] (List.getElem?_eq_getElem hm)
  cases e : M[l] with
  | lst ds =>
    rw [e] at q
    obtain ⟨b, xs, h1, h2, _⟩ := q
    rw [hl] at h1; cases h1
    exact .inl ⟨xs, h2⟩
  | dct kvs =>
    rw [e] at q
    obtain ⟨b, xs, h1, h2, _⟩ := q
    rw [hl] at h1; cases h1
    exact .inr (.inl ⟨xs, h2⟩)
  | ins C fs =>
    rw [e] at q
    obtain ⟨b, Ca, dx, gs, h1, _, h2, _⟩ := q
    rw [hl] at h1; cases h1
    exact .inr (.inr ⟨Ca, dx, gs, h2⟩)
  | gone =>
    rw [e] at q
    have q' : ρ.c[l]? = some none := q
    rw [hl] at q'; cases q'
theorem Rel.freshH {K : PySem.W.Frag} {ρ : Rho} {M : MH} {H : Hp} (R : Rel K ρ M H) {p : Addr} (hp : H p = none) : p ∉ ρ.h := fun m => by
  obtain ⟨_, xs, e⟩ := R.hid p m
  rw [hp] at e; cases e
theorem Rel.notTup {K : PySem.W.Frag} {ρ : Rho} {M : MH} {H : Hp} (R : Rel K ρ M H) {a : Addr} {xs : List V} (h : H a = some (.tup xs)) : some a ∉ ρ.c := fun m => by
  rcases R.kind m with ⟨_, e⟩ | ⟨_, e⟩ | ⟨_, _, _, e⟩ <;> (rw [h] at e; cases e)
theorem Rel.notFrz {K : PySem.W.Frag} {ρ : Rho} {M : MH} {H : Hp} (R : Rel K ρ M H) {a : Addr} {o : Obj} {u : HO} (h : H a = some (.frz o u)) : some a ∉ ρ.c := fun m => by
  rcases R.kind m with ⟨_, e⟩ | ⟨_, e⟩ | ⟨_, _, _, e⟩ <;> (rw [h] at e; cases e)
theorem Rel.notExt {K : PySem.W.Frag} {ρ : Rho} {M : MH} {H : Hp} (R : Rel K ρ M H) {a : Addr} {φ : Heap → Prop} (h : H a = some (.ext φ)) : some a ∉ ρ.c := fun m => by
  rcases R.kind m with ⟨_, e⟩ | ⟨_, e⟩ | ⟨_, _, _, e⟩ <;> (rw [h] at e; cases e)
theorem Rel.notXd {K : PySem.W.Frag} {ρ : Rho} {M : MH} {H : Hp} (R : Rel K ρ M H) {a : Addr} {gs : List (Str × V)} (h : H a = some (.xd gs)) : some a ∉ ρ.c := fun m => by
  rcases R.kind m with ⟨_, e⟩ | ⟨_, e⟩ | ⟨_, _, _, e⟩ <;> (rw [h] at e; cases e)
theorem Stp.refl {K : PySem.W.Frag} {ρ : Rho} {M : MH} {H : Hp} : Stp ρ H ρ H := ⟨fun _ _ h => .inl h, fun _ h => .inl h, fun _ _ h _ => h, rfl⟩
theorem Stp.notin {ρ ρ' : Rho} {H H' : Hp} (S : Stp ρ H ρ' H') {a : Addr} {o : HO} (h : H a = some o) (n : some a ∉ ρ.c) : some a ∉ ρ'.c := fun m => by
  rcases S.new a m with z | z
  · exact n z
  · rw [h] at z; cases z
theorem Stp.trans {ρ ρ1 ρ2 : Rho} {H H1 H2 : Hp} (a : Stp ρ H ρ1 H1) (b : Stp ρ1 H1 ρ2 H2) : Stp ρ H ρ2 H2 where
  pre := fun l o h => by
    rcases a.pre l o h with q | q
    · exact b.pre l o q
    · rcases b.pre l none q with z | z <;> exact .inr z
  new := fun x m => by
    rcases b.new x m with q | q
    · exact a.new x q
    · cases e : H x with
      | none => exact .inr rfl
      | some o =>
        by_cases hx : some x ∈ ρ.c
        · exact .inl hx
        · rw [a.keep x o e hx] at q; cases q
  keep := fun x o h n => b.keep x o (a.keep x o h n) (a.notin h n)
  hid := b.hid.trans a.hid

section
variable {K : PySem.W.Frag} {ρ ρ' : Rho} {M M' : MH} {H H' : Hp}
theorem SqT.step (R : Rel K ρ M H) (S : Stp ρ H ρ' H') {a : Addr} {xs : List V} (h : SqT K H a xs) : SqT K H' a xs := by
  rcases h with (h | ⟨o, h⟩) | h
  · exact .inl (.inl (S.keep a _ h (R.notTup h)))
  · exact .inl (.inr ⟨o, S.keep a _ h (R.notFrz h)⟩)
  · exact .inr h
theorem LsV.step (S : Stp ρ H ρ' H') {a : Addr} {xs : List V} (h : LsV K ρ H a xs) : LsV K ρ' H' a xs := by
  rcases h with ⟨h | ⟨o, h⟩, n, n2⟩ | h
  · exact .inl ⟨.inl (S.keep a _ h n), S.notin h n, by rw [S.hid]; exact n2⟩
  · exact .inl ⟨.inr ⟨o, S.keep a _ h n⟩, S.notin h n, by rw [S.hid]; exact n2⟩
  · exact .inr h
theorem LsV.sq {a : Addr} {xs : List V} (h : LsV K ρ H a xs) : SqL K H a xs := by
  rcases h with ⟨h, _⟩ | h
  · exact .inl h
  · rcases h with (h | ⟨o, h⟩) | h
    · cases h
    · cases h
    · exact .inr h
mutual
theorem Den.step (R : Rel K ρ M H) (S : Stp ρ H ρ' H') : ∀ (d : D) (v : V), Den K ρ H d v → Den K ρ' H' d v
  | .non, v, h => by unfold Den at h ⊢; exact h
  | .bl b, v, h => by unfold Den at h ⊢; exact h
  | .int i, v, h => by unfold Den at h ⊢; exact h
  | .str x, v, h => by unfold Den at h ⊢; exact h
  | .ty n, v, h => by unfold Den at h ⊢; exact h
  | .adr a, v, h => by unfold Den at h ⊢; exact h
  | .ref l, v, h => by
    unfold Den at h ⊢
    obtain ⟨a, o, e, h1, h2⟩ := h
    rcases S.pre l o h1 with q | q
    · exact ⟨a, o, e, q, h2⟩
    · exact ⟨a, none, e, q, fun _ z => nomatch z⟩
  | .tup ds, v, h => by
    unfold Den at h ⊢
    obtain ⟨a, xs, e, h1, h2⟩ := h
    exact ⟨a, xs, e, SqT.step R S h1, Dens.step R S ds xs h2⟩
  | .lst ds, v, h => by
    unfold Den at h ⊢
    obtain ⟨a, xs, e, h1, h2⟩ := h
    exact ⟨a, xs, e, h1.step S, Dens.step R S ds xs h2⟩
  | .dct ks ds, v, h => by
    unfold Den at h ⊢
    obtain ⟨a, kvs, e, h1, n, h2, h3⟩ := h
    obtain ⟨o, h1⟩ := h1
    exact ⟨a, kvs, e, ⟨o, S.keep a _ h1 n⟩, S.notin h1 n, h2, Dens.step R S ds _ h3⟩
  | .fn n, v, h => by unfold Den at h ⊢; exact h
  | .exo c hd ks ds, v, h => by
    unfold Den at h ⊢
    obtain ⟨a, cv, d, e, cn, h1, h2⟩ := h
    refine ⟨a, cv, d, e, cn, S.keep a _ h1 (R.notExt h1), ?_⟩
    rcases h2 with h2 | ⟨z, dd, gs, e2, h3, h4, h5⟩
    · exact .inl h2
    · exact .inr ⟨z, dd, gs, e2, S.keep dd _ h3 (R.notXd h3), h4, Dens.step R S ds _ h5⟩
theorem Dens.step (R : Rel K ρ M H) (S : Stp ρ H ρ' H') : ∀ (ds : List D) (vs : List V), Dens K ρ H ds vs → Dens K ρ' H' ds vs
  | [], vs, h => by unfold Dens at h ⊢; exact h
  | d :: ds, vs, h => by
    unfold Dens at h ⊢
    obtain ⟨v, r, e, h1, h2⟩ := h
    exact ⟨v, r, e, Den.step R S d v h1, Dens.step R S ds r h2⟩
end
theorem DenP.step {κ : Type} (R : Rel K ρ M H) (S : Stp ρ H ρ' H') {ps : List (κ × D)} {qs : List (κ × V)} (h : DenP K ρ H ps qs) : DenP K ρ' H' ps qs := Paired.mapP h fun p q z => ⟨z.1, Den.step R S _ _ z.2⟩

theorem Rel.fresh (R : Rel K ρ M H) {p : Addr} (hp : H p = none) : some p ∉ ρ.c := fun m => by
  rcases R.kind m with ⟨_, e⟩ | ⟨_, e⟩ | ⟨_, _, _, e⟩ <;> (rw [hp] at e; cases e)
/-- what keeps every value -/
structure Tr (ρ : Rho) (H : Hp) (ρ' : Rho) (H' : Hp) : Prop where
  pre : ∀ (l : Nat) (o : Option Addr), ρ.c[l]? = some o → ρ'.c[l]? = some o ∨ ρ'.c[l]? = some none
  lst : ∀ (a : Addr) (xs : List V), Rd H a (.lst xs) → some a ∉ ρ.c → a ∉ ρ.h → Rd H' a (.lst xs) ∧ some a ∉ ρ'.c ∧ a ∉ ρ'.h
  tup : ∀ (a : Addr) (xs : List V), Rd H a (.tup xs) → Rd H' a (.tup xs)
  dct : ∀ (a : Addr) (kvs : List (Key × V)), Lk H a kvs → some a ∉ ρ.c → Lk H' a kvs ∧ some a ∉ ρ'.c
  ext : ∀ (a : Addr) (φ : Heap → Prop), H a = some (.ext φ) → H' a = some (.ext φ)
  xd : ∀ (a : Addr) (gs : List (Str × V)), H a = some (.xd gs) → H' a = some (.xd gs)
theorem Tr.refl : Tr ρ H ρ H := ⟨fun _ _ h => .inl h, fun _ _ h n m => ⟨h, n, m⟩, fun _ _ h => h, fun _ _ h n => ⟨h, n⟩, fun _ _ h => h, fun _ _ h => h⟩
theorem Tr.trans {ρ1 ρ2 : Rho} {H1 H2 : Hp} (a : Tr ρ H ρ1 H1) (b : Tr ρ1 H1 ρ2 H2) : Tr ρ H ρ2 H2 where
  pre := fun l o h => by
    rcases a.pre l o h with q | q
    · exact b.pre l o q
    · rcases b.pre l none q with z | z <;> exact .inr z
  lst := fun x xs h n m => let ⟨h1, n1, m1⟩ := a.lst x xs h n m; b.lst x xs h1 n1 m1
  tup := fun x xs h => b.tup x xs (a.tup x xs h)
  dct := fun x ks h n => let ⟨h1, n1⟩ := a.dct x ks h n; b.dct x ks h1 n1
  ext := fun x φ h => b.ext x φ (a.ext x φ h)
  xd := fun x gs h => b.xd x gs (a.xd x gs h)
theorem Stp.tr (R : Rel K ρ M H) (S : Stp ρ H ρ' H') : Tr ρ H ρ' H' where
  pre := S.pre
  lst := fun a xs h n m => by
    rcases h with h | ⟨o, h⟩
    · exact ⟨.inl (S.keep a _ h n), S.notin h n, by rw [S.hid]; exact m⟩
    · exact ⟨.inr ⟨o, S.keep a _ h n⟩, S.notin h n, by rw [S.hid]; exact m⟩
  tup := fun a xs h => by
    rcases h with h | ⟨o, h⟩
    · exact .inl (S.keep a _ h (R.notTup h))
    · exact .inr ⟨o, S.keep a _ h (R.notFrz h)⟩
  dct := fun a ks ⟨o, h⟩ n => ⟨⟨o, S.keep a _ h n⟩, S.notin h n⟩
  ext := fun a φ h => S.keep a _ h (R.notExt h)
  xd := fun a gs h => S.keep a _ h (R.notXd h)
theorem SqT.tr (T : Tr ρ H ρ' H') {a : Addr} {xs : List V} (h : SqT K H a xs) : SqT K H' a xs := by
  rcases h with h | h
  · exact .inl (T.tup a xs h)
  · exact .inr h
theorem LsV.tr (T : Tr ρ H ρ' H') {a : Addr} {xs : List V} (h : LsV K ρ H a xs) : LsV K ρ' H' a xs := by
  rcases h with ⟨h, n, m⟩ | h
  · exact .inl (T.lst a xs h n m)
  · exact .inr h
mutual
theorem Den.tr (T : Tr ρ H ρ' H') : ∀ (d : D) (v : V), Den K ρ H d v → Den K ρ' H' d v
  | .non, v, h => by unfold Den at h ⊢; exact h
  | .bl b, v, h => by unfold Den at h ⊢; exact h
  | .int i, v, h => by unfold Den at h ⊢; exact h
  | .str x, v, h => by unfold Den at h ⊢; exact h
  | .ty n, v, h => by unfold Den at h ⊢; exact h
  | .adr a, v, h => by unfold Den at h ⊢; exact h
  | .ref l, v, h => by
    unfold Den at h ⊢
    obtain ⟨a, o, e, h1, h2⟩ := h
    rcases T.pre l o h1 with q | q
    · exact ⟨a, o, e, q, h2⟩
    · exact ⟨a, none, e, q, fun _ z => nomatch z⟩
  | .tup ds, v, h => by
    unfold Den at h ⊢
    obtain ⟨a, xs, e, h1, h2⟩ := h
    exact ⟨a, xs, e, SqT.tr T h1, Dens.tr T ds xs h2⟩
  | .lst ds, v, h => by
    unfold Den at h ⊢
    obtain ⟨a, xs, e, h1, h2⟩ := h
    exact ⟨a, xs, e, h1.tr T, Dens.tr T ds xs h2⟩
  | .dct ks ds, v, h => by
    unfold Den at h ⊢
    obtain ⟨a, kvs, e, h1, n, h2, h3⟩ := h
    obtain ⟨q1, q2⟩ := T.dct a kvs h1 n
    exact ⟨a, kvs, e, q1, q2, h2, Dens.tr T ds _ h3⟩
  | .fn n, v, h => by unfold Den at h ⊢; exact h
  | .exo c hd ks ds, v, h => by
    unfold Den at h ⊢
    obtain ⟨a, cv, d, e, cn, h1, h2⟩ := h
    refine ⟨a, cv, d, e, cn, T.ext a _ h1, ?_⟩
    rcases h2 with h2 | ⟨z, dd, gs, e2, h3, h4, h5⟩
    · exact .inl h2
    · exact .inr ⟨z, dd, gs, e2, T.xd dd _ h3, h4, Dens.tr T ds _ h5⟩
theorem Dens.tr (T : Tr ρ H ρ' H') : ∀ (ds : List D) (vs : List V), Dens K ρ H ds vs → Dens K ρ' H' ds vs
  | [], vs, h => by unfold Dens at h ⊢; exact h
  | d :: ds, vs, h => by
    unfold Dens at h ⊢
    obtain ⟨v, r, e, h1, h2⟩ := h
    exact ⟨v, r, e, Den.tr T d v h1, Dens.tr T ds r h2⟩
end
theorem DenP.tr {κ : Type} (T : Tr ρ H ρ' H') {ps : List (κ × D)} {qs : List (κ × V)} (h : DenP K ρ H ps qs) : DenP K ρ' H' ps qs := Paired.mapP h fun p q z => ⟨z.1, Den.tr T _ _ z.2⟩
theorem ObjD.tr (T : Tr ρ H ρ' H') (e : ρ'.c = ρ.c) (k : ∀ a o, some a ∈ ρ.c → H a = some o → H' a = some o) {l : Nat} {o : MO} (q : ObjD K ρ H l o) : ObjD K ρ' H' l o := by
  cases o with
  | lst ds =>
    obtain ⟨a, xs, h1, h2, h3⟩ := q
    exact ⟨a, xs, by rw [e]; exact h1, k a _ (mem_of_get h1) h2, Dens.tr T _ _ h3⟩
  | dct kvs =>
    obtain ⟨a, xs, h1, h2, h3⟩ := q
    exact ⟨a, xs, by rw [e]; exact h1, k a _ (mem_of_get h1) h2, DenP.tr T h3⟩
  | ins C fs =>
    obtain ⟨a, Ca, dx, gs, h1, cn, h2, h3⟩ := q
    exact ⟨a, Ca, dx, gs, by rw [e]; exact h1, cn, k a _ (mem_of_get h1) h2, DenP.tr T h3⟩
  | gone =>
    show ρ'.c[l]? = some none
    rw [e]
    exact q
/-- the same cells, other things out of sight -/
theorem Rel.tr (R : Rel K ρ M H) (T : Tr ρ H ρ' H') (e : ρ'.c = ρ.c) (k : ∀ a o, some a ∈ ρ.c → H a = some o → H' a = some o) (hid : ∀ a ∈ ρ'.h, some a ∉ ρ'.c ∧ ∃ xs, H' a = some (.lst xs)) : Rel K ρ' M H' where
  len := by rw [e]; exact R.len
  hid := hid
  inj := by rw [e]; exact R.inj
  obj := fun l o q => (R.obj l o q).tr T e k

/-! ### out of sight -/
def Rho.hide (ρ : Rho) (p : Addr) : Rho := ⟨ρ.c, p :: ρ.h⟩
theorem Tr.hide {p : Addr} {o : HO} (hp : H p = none) : Tr ρ H (ρ.hide p) (upd H p o) where
  pre := fun _ _ h => .inl h
  lst := fun a xs h n m => by
    have ne : a ≠ p := by
      rcases h with h | ⟨u, h⟩ <;> exact ne_of_none h hp
    refine ⟨?_, n, fun z => ?_⟩
    · rcases h with h | ⟨u, h⟩
      · exact .inl (by rw [upd_ne ne]; exact h)
      · exact .inr ⟨u, by rw [upd_ne ne]; exact h⟩
    · rcases List.mem_cons.mp z with z | z
      · exact ne z
      · exact m z
  tup := fun a xs h => by
    rcases h with h | ⟨u, h⟩
    · exact .inl (by rw [upd_ne (ne_of_none h hp)]; exact h)
    · exact .inr ⟨u, by rw [upd_ne (ne_of_none h hp)]; exact h⟩
  dct := fun a ks ⟨u, h⟩ n => ⟨⟨u, by rw [upd_ne (ne_of_none h hp)]; exact h⟩, n⟩
  ext := fun a φ h => by rw [upd_ne (ne_of_none h hp)]; exact h
  xd := fun a φ h => by rw [upd_ne (ne_of_none h hp)]; exact h
theorem Rel.hide (R : Rel K ρ M H) {p : Addr} {xs : List V} (hp : H p = none) : Rel K (ρ.hide p) M (upd H p (.lst xs)) :=
  R.tr (Tr.hide hp) rfl (fun a o _ h => by rw [upd_ne (ne_of_none h hp)]; exact h) fun a m => by
    rcases List.mem_cons.mp m with e | m
    · subst e
      exact ⟨R.fresh hp, xs, upd_same⟩
    · obtain ⟨n, ys, h⟩ := R.hid a m
      exact ⟨n, ys, by rw [upd_ne (ne_of_none h hp)]; exact h⟩
theorem Tr.hidden {p : Addr} {xs : List V} {o : HO} (m : p ∈ ρ.h) (hp : H p = some (.lst xs)) : Tr ρ H ρ (upd H p o) where
  pre := fun _ _ h => .inl h
  lst := fun a ys h n k => by
    have ne : a ≠ p := fun e => k (e ▸ m)
    refine ⟨?_, n, k⟩
    rcases h with h | ⟨u, h⟩
    · exact .inl (by rw [upd_ne ne]; exact h)
    · exact .inr ⟨u, by rw [upd_ne ne]; exact h⟩
  tup := fun a ys h => by
    rcases h with h | ⟨u, h⟩
    · exact .inl (by rw [upd_ne (ne_of h hp fun z => nomatch z)]; exact h)
    · exact .inr ⟨u, by rw [upd_ne (ne_of h hp fun z => nomatch z)]; exact h⟩
  dct := fun a ks ⟨u, h⟩ n => ⟨⟨u, by rw [upd_ne (ne_of h hp fun z => nomatch z)]; exact h⟩, n⟩
  ext := fun a φ h => by rw [upd_ne (ne_of h hp fun z => nomatch z)]; exact h
  xd := fun a φ h => by rw [upd_ne (ne_of h hp fun z => nomatch z)]; exact h
theorem Rel.hidden (R : Rel K ρ M H) {p : Addr} {xs ys : List V} (m : p ∈ ρ.h) (hp : H p = some (.lst xs)) : Rel K ρ M (upd H p (.lst ys)) :=
  R.tr (Tr.hidden m hp) rfl (fun a o q h => by
    have ne : a ≠ p := fun e => (R.hid p m).1 (by rw [← e]; exact q)
    rw [upd_ne ne]
    exact h) fun a k => by
    obtain ⟨n, zs, h⟩ := R.hid a k
    by_cases e : a = p
    · subst e
      exact ⟨n, ys, upd_same⟩
    · exact ⟨n, zs, by rw [upd_ne e]; exact h⟩
theorem Tr.unhide {p : Addr} : Tr (ρ.hide p) H ρ H := ⟨fun _ _ h => .inl h, fun _ _ h n m => ⟨h, n, fun z => m (List.mem_cons_of_mem _ z)⟩, fun _ _ h => h, fun _ _ h n => ⟨h, n⟩, fun _ _ h => h, fun _ _ h => h⟩
theorem Rel.unhide {p : Addr} (R : Rel K (ρ.hide p) M H) : Rel K ρ M H := R.tr Tr.unhide rfl (fun _ _ _ h => h) fun a m => R.hid a (List.mem_cons_of_mem _ m)

/-! ### reading Den -/
theorem den_non {v : V} : Den K ρ H .non v ↔ v = .non := by unfold Den; exact Iff.rfl
theorem den_bl {b : Bool} {v : V} : Den K ρ H (.bl b) v ↔ v = .bl b := by unfold Den; exact Iff.rfl
theorem den_int {i : Int} {v : V} : Den K ρ H (.int i) v ↔ v = .int i := by unfold Den; exact Iff.rfl
theorem den_str {x : Str} {v : V} : Den K ρ H (.str x) v ↔ v = .str x := by unfold Den; exact Iff.rfl
theorem den_ty {n : String} {v : V} : Den K ρ H (.ty n) v ↔ v = .ty n := by unfold Den; exact Iff.rfl
theorem den_adr {a : Addr} {v : V} : Den K ρ H (.adr a) v ↔ v = .ref a := by unfold Den; exact Iff.rfl
theorem den_ref {l : Nat} {v : V} : Den K ρ H (.ref l) v ↔ ∃ a o, v = .ref a ∧ ρ.c[l]? = some o ∧ ∀ b, o = some b → b = a := by unfold Den; exact Iff.rfl
theorem den_tup {ds : List D} {v : V} : Den K ρ H (.tup ds) v ↔ ∃ a xs, v = .ref a ∧ SqT K H a xs ∧ Dens K ρ H ds xs := by unfold Den; exact Iff.rfl
theorem den_lst {ds : List D} {v : V} : Den K ρ H (.lst ds) v ↔ ∃ a xs, v = .ref a ∧ LsV K ρ H a xs ∧ Dens K ρ H ds xs := by unfold Den; exact Iff.rfl
theorem den_dct {ks : List Key} {ds : List D} {v : V} : Den K ρ H (.dct ks ds) v ↔ ∃ a kvs, v = .ref a ∧ Lk H a kvs ∧ some a ∉ ρ.c ∧ kvs.map (·.1) = ks ∧ Dens K ρ H ds (kvs.map (·.2)) := by unfold Den; exact Iff.rfl
theorem den_fn {n : Str} {v : V} : Den K ρ H (.fn n) v ↔ ∃ a, PySem.W.nsIn K mainGlobals n = some (some (.ref a)) ∧ v = .ref a := by unfold Den; exact Iff.rfl
theorem den_exo {c : Str} {hd : Bool} {ks : List Str} {ds : List D} {v : V} : Den K ρ H (.exo c hd ks ds) v ↔ ∃ a cv d, v = .ref a ∧ CN K c cv ∧ H a = some (ExV cv d a) ∧ (hd = false ∧ d = none ∨ hd = true ∧ ∃ dd gs, d = some dd ∧ H dd = some (.xd gs) ∧ gs.map (·.1) = ks ∧ Dens K ρ H ds (gs.map (·.2))) := by unfold Den; exact Iff.rfl
theorem dens_nil {vs : List V} : Dens K ρ H [] vs ↔ vs = [] := by unfold Dens; exact Iff.rfl
theorem dens_cons {d : D} {ds : List D} {vs : List V} : Dens K ρ H (d :: ds) vs ↔ ∃ v r, vs = v :: r ∧ Den K ρ H d v ∧ Dens K ρ H ds r := by rw [Dens]
theorem dens_iff {ds : List D} {vs : List V} : Dens K ρ H ds vs ↔ Paired (Den K ρ H) ds vs := by
  induction ds generalizing vs with
  | nil =>
    rw [dens_nil]
    exact ⟨fun e => e ▸ .nil, fun p => by cases p; rfl⟩
  | cons d ds ih =>
    rw [dens_cons]
    exact ⟨fun ⟨v, r, e, h1, h2⟩ => e ▸ .cons h1 (ih.mp h2), fun p => by
      cases p with
      | cons h1 h2 => exact ⟨_, _, rfl, h1, ih.mpr h2⟩⟩
theorem Dens.length {ds : List D} {vs : List V} (h : Dens K ρ H ds vs) : ds.length = vs.length := Paired.length (dens_iff.mp h)
theorem Dens.append {ds es : List D} {vs ws : List V} (h : Dens K ρ H ds vs) (g : Dens K ρ H es ws) : Dens K ρ H (ds ++ es) (vs ++ ws) := by
  induction ds generalizing vs with
  | nil => rw [dens_nil] at h; subst h; exact g
  | cons d ds ih =>
    obtain ⟨v, r, rfl, h1, h2⟩ := dens_cons.mp h
    exact dens_cons.mpr ⟨v, r ++ ws, rfl, h1, ih h2⟩
theorem Dens.get {ds : List D} {vs : List V} (h : Dens K ρ H ds vs) {i : Nat} {d : D} (e : ds[i]? = some d) : ∃ v, vs[i]? = some v ∧ Den K ρ H d v := by
  induction ds generalizing vs i with
  | nil => simp at e
  | cons d0 ds ih =>
    obtain ⟨v, r, rfl, h1, h2⟩ := dens_cons.mp h
    cases i with
    | zero => simp at e; subst e; exact ⟨v, rfl, h1⟩
    | succ i => simpa using ih h2 (by simpa using e)
theorem Dens.getV {ds : List D} {vs : List V} (h : Dens K ρ H ds vs) {i : Nat} {v : V} (e : vs[i]? = some v) : ∃ d, ds[i]? = some d ∧ Den K ρ H d v := by
  have hi : i < ds.length := by rw [h.length]; exact (List.getElem?_eq_some_iff.mp e).1
  obtain ⟨w, h1, h2⟩ := h.get (List.getElem?_eq_getElem hi)
  rw [e] at h1; cases h1
  exact ⟨_, List.getElem?_eq_getElem hi, h2⟩
theorem Dens.take {ds : List D} {vs : List V} (n : Nat) (h : Dens K ρ H ds vs) : Dens K ρ H (ds.take n) (vs.take n) := by
  induction ds generalizing vs n with
  | nil => rw [dens_nil] at h; subst h; simp [dens_nil]
  | cons d ds ih =>
    obtain ⟨v, r, rfl, h1, h2⟩ := dens_cons.mp h
    cases n with
    | zero => simp [dens_nil]
    | succ n => simpa using dens_cons.mpr ⟨v, r.take n, rfl, h1, ih n h2⟩
theorem Dens.drop {ds : List D} {vs : List V} (n : Nat) (h : Dens K ρ H ds vs) : Dens K ρ H (ds.drop n) (vs.drop n) := by
  induction ds generalizing vs n with
  | nil => rw [dens_nil] at h; subst h; simp [dens_nil]
  | cons d ds ih =>
    obtain ⟨v, r, rfl, h1, h2⟩ := dens_cons.mp h
    cases n with
    | zero => simpa using dens_cons.mpr ⟨v, r, rfl, h1, h2⟩
    | succ n => simpa using ih n h2
theorem Dens.reverse {ds : List D} {vs : List V} (h : Dens K ρ H ds vs) : Dens K ρ H ds.reverse vs.reverse := by
  induction ds generalizing vs with
  | nil => rw [dens_nil] at h; subst h; simp [dens_nil]
  | cons d ds ih =>
    obtain ⟨v, r, rfl, h1, h2⟩ := dens_cons.mp h
    rw [List.reverse_cons, List.reverse_cons]
    exact (ih h2).append (dens_cons.mpr ⟨v, [], rfl, h1, dens_nil.mpr rfl⟩)
theorem dens_ints {ns : List Int} : Dens K ρ H (ns.map D.int) (ns.map V.int) := by
  induction ns with
  | nil => exact dens_nil.mpr rfl
  | cons n ns ih => exact dens_cons.mpr ⟨_, _, rfl, den_int.mpr rfl, ih⟩
theorem dens_ints_inv {ns : List Int} {vs : List V} (h : Dens K ρ H (ns.map D.int) vs) : vs = ns.map V.int := by
  induction ns generalizing vs with
  | nil => exact dens_nil.mp h
  | cons n ns ih =>
    obtain ⟨v, r, rfl, h1, h2⟩ := dens_cons.mp h
    rw [den_int.mp h1, ih h2]; rfl

/-! ### new objects -/
theorem Stp.alloc {p : Addr} {o : HO} (hp : H p = none) : Stp ρ H ρ (upd H p o) := ⟨fun _ _ h => .inl h, fun _ h => .inl h, fun a u h _ => by rw [upd_ne (ne_of_none h hp)]; exact h, rfl⟩
/-- the cells stand where only others change -/
theorem Rel.same (R : Rel K ρ M H) (S : Stp ρ H ρ H') (k : ∀ a o, some a ∈ ρ.c → H a = some o → H' a = some o) : Rel K ρ M H' where
  len := R.len
  hid := fun a m => let ⟨n, xs, e⟩ := R.hid a m; ⟨n, xs, S.keep a _ e n⟩
  inj := R.inj
  obj := fun l o e => by
    have q := R.obj l o e
    cases o with
    | lst ds =>
      obtain ⟨a, xs, h1, h2, h3⟩ := q
      exact ⟨a, xs, h1, k a _ (mem_of_get h1) h2, Dens.step R S _ _ h3⟩
    | dct kvs =>
      obtain ⟨a, xs, h1, h2, h3⟩ := q
      exact ⟨a, xs, h1, k a _ (mem_of_get h1) h2, DenP.step R S h3⟩
    | ins C fs =>
      obtain ⟨a, Ca, dx, gs, h1, cn, h2, h3⟩ := q
      exact ⟨a, Ca, dx, gs, h1, cn, k a _ (mem_of_get h1) h2, DenP.step R S h3⟩
    | gone => exact q
theorem Rel.alloc (R : Rel K ρ M H) {p : Addr} {o : HO} (hp : H p = none) : Rel K ρ M (upd H p o) :=
  R.same (Stp.alloc hp) fun a u _ h => by rw [upd_ne (ne_of_none h hp)]; exact h
theorem den_newT (R : Rel K ρ M H) {p : Addr} {ds : List D} {xs : List V} (hp : H p = none) (h : Dens K ρ H ds xs) : Den K ρ (upd H p (.tup xs)) (.tup ds) (.ref p) :=
  den_tup.mpr ⟨p, xs, rfl, .inl (.inl upd_same), Dens.step R (Stp.alloc hp) _ _ h⟩
theorem den_newL (R : Rel K ρ M H) {p : Addr} {ds : List D} {xs : List V} (hp : H p = none) (h : Dens K ρ H ds xs) : Den K ρ (upd H p (.lst xs)) (.lst ds) (.ref p) :=
  den_lst.mpr ⟨p, xs, rfl, .inl ⟨.inl upd_same, R.fresh hp, R.freshH hp⟩, Dens.step R (Stp.alloc hp) _ _ h⟩
end
end Mi

end

section
/-! Mi, second part: what an expression comes to, as a function on data; the judgement that says so; names, constants, operators, tests. -/
namespace Mi
open PySem PySem.Spec PyProof.Rows L2

inductive R (α : Type) where
  | ok (a : α) (M : MH)
  | exc (c : Str) (fs : Option (List (Str × D))) (M : MH)
  | err
def R.bind {α β : Type} (r : R α) (f : α → MH → R β) : R β := match r with
  | .ok a M => f a M
  | .exc c fs M => .exc c fs M
  | .err => .err
@[simp] theorem R.bind_ok {α β : Type} (a : α) (M : MH) (f : α → MH → R β) : (R.ok a M).bind f = f a M := rfl
@[simp] theorem R.bind_exc {α β : Type} (c : Str) (fs : Option (List (Str × D))) (M : MH) (f : α → MH → R β) : (R.exc c fs M).bind f = .exc c fs M := rfl
@[simp] theorem R.bind_err {α β : Type} (f : α → MH → R β) : (R.err : R α).bind f = .err := rfl

abbrev En := List (Option D)
abbrev ME := En → MH → R D
abbrev MT := En → MH → R Bool
abbrev MA := En → MH → R (List D)

/-- the slots' values -/
structure EnR (K : PySem.W.Frag) (ρ : Rho) (H : Hp) (env : En) (σ : L2.St) : Prop where
  len : env.length = σ.length
  get : ∀ (i : Nat) (d : D), env[i]? = some (some d) → ∃ v : V, σ[i]? = some (some v) ∧ Den K ρ H d v
theorem EnR.step {K : PySem.W.Frag} {ρ ρ' : Rho} {M : MH} {H H' : Hp} {env : En} {σ : L2.St} (e : EnR K ρ H env σ) (Rl : Rel K ρ M H) (S : Stp ρ H ρ' H') : EnR K ρ' H' env σ :=
  ⟨e.len, fun i d h => let ⟨v, h1, h2⟩ := e.get i d h; ⟨v, h1, Den.step Rl S _ _ h2⟩⟩
theorem EnR.tr {K : PySem.W.Frag} {ρ ρ' : Rho} {H H' : Hp} {env : En} {σ : L2.St} (e : EnR K ρ H env σ) (T : Tr ρ H ρ' H') : EnR K ρ' H' env σ :=
  ⟨e.len, fun i d h => let ⟨v, h1, h2⟩ := e.get i d h; ⟨v, h1, Den.tr T _ _ h2⟩⟩
theorem EnR.set {K : PySem.W.Frag} {ρ : Rho} {H : Hp} {env : En} {σ : L2.St} {d : D} {v : V} (e : EnR K ρ H env σ) (i : Nat) (h : Den K ρ H d v) : EnR K ρ H (env.set i (some d)) (σ.set i (some v)) := by
  refine ⟨by simp [e.len], fun j d' hj => ?_⟩
  by_cases q : i = j
  · subst q
    have hl : i < env.length := by
      have := (List.getElem?_eq_some_iff.mp hj).1
      simpa using this
    rw [List.getElem?_set_self hl] at hj
    cases hj
    exact ⟨v, by rw [List.getElem?_set_self (by rw [← e.len]; exact hl)], h⟩
  · rw [List.getElem?_set_ne q] at hj
    rw [List.getElem?_set_ne q]
    exact e.get j d' hj

def XRel (K : PySem.W.Frag) (ρ : Rho) (H : Hp) : Option (List (Str × D)) → Option Addr → Prop
  | none, d => d = none
  | some fs, d => ∃ a gs, d = some a ∧ H a = some (.xd gs) ∧ DenP K ρ H fs gs

/-- a result holds: whatever stands for it, the wish is so -/
def Ok {α β : Type} (K : PySem.W.Frag) (ρ : Rho) (H : Hp) (dn : Rho → Hp → α → β → Prop) (W : Value → Option Addr → Hp → Prop) (Q : β → Hp → Prop) : R α → Prop
  | .ok a M => ∀ ρ' H' v, Stp ρ H ρ' H' → Rel K ρ' M H' → dn ρ' H' a v → Q v H'
  | .exc c fs M => ∀ ρ' H' d cv, CN K c cv → Stp ρ H ρ' H' → Rel K ρ' M H' → XRel K ρ' H' fs d → W cv d H'
  | .err => False
theorem Ok.bind {α β α' β' : Type} {K : PySem.W.Frag} {ρ : Rho} {H : Hp} {dn : Rho → Hp → α → β → Prop} {dn' : Rho → Hp → α' → β' → Prop} {W : Value → Option Addr → Hp → Prop} {Q : β' → Hp → Prop} {r : R α} {f : α → MH → R α'}
    {Q1 : β → Hp → Prop} (h : Ok K ρ H dn' W Q (r.bind f))
    (k : ∀ a M ρ1 H1 v, r = .ok a M → Stp ρ H ρ1 H1 → Rel K ρ1 M H1 → dn ρ1 H1 a v → Ok K ρ1 H1 dn' W Q (f a M) → Q1 v H1) : Ok K ρ H dn W Q1 r := by
  cases r with
  | err => exact h
  | exc c fs M => exact h
  | ok a M =>
    intro ρ1 H1 v S Rl d
    refine k a M ρ1 H1 v rfl S Rl d ?_
    have h' : Ok K ρ H dn' W Q (f a M) := h
    cases e : f a M with
    | err => rw [e] at h'; exact h'
    | exc c fs M' =>
      rw [e] at h'
      exact fun ρ2 H2 dd cv cn S2 R2 x => h' ρ2 H2 dd cv cn (S.trans S2) R2 x
    | ok b M' =>
      rw [e] at h'
      exact fun ρ2 H2 w S2 R2 x => h' ρ2 H2 w (S.trans S2) R2 x
theorem Ok.mono {α β : Type} {K : PySem.W.Frag} {ρ : Rho} {H : Hp} {dn : Rho → Hp → α → β → Prop} {W : Value → Option Addr → Hp → Prop} {Q Q' : β → Hp → Prop} {r : R α} (h : Ok K ρ H dn W Q r) (q : ∀ v H', Q v H' → Q' v H') : Ok K ρ H dn W Q' r := by
  cases r with
  | err => exact h
  | exc c fs M => exact h
  | ok a M => exact fun ρ1 H1 v S Rl d => q v H1 (h ρ1 H1 v S Rl d)

abbrev DnD (K : PySem.W.Frag) : Rho → Hp → D → V → Prop := fun ρ H d v => Den K ρ H d v
abbrev DnB : Rho → Hp → Bool → Bool → Prop := fun _ _ a b => a = b
abbrev DnA (K : PySem.W.Frag) : Rho → Hp → List D → List V → Prop := fun ρ H d v => Dens K ρ H d v

/-- readings out of functions -/
def tm {α β : Type} (K : PySem.W.Frag) (dn : Rho → Hp → α → β → Prop) (W : WX) (m : En → MH → R α) : L2.St → Hp → (β → Hp → Prop) → Prop :=
  fun σ H Q => ∃ ρ M env, Rel K ρ M H ∧ EnR K ρ H env σ ∧ Ok K ρ H dn (fun c d H' => W c d σ H') Q (m env M)
theorem tm_bind {α β α' β' : Type} {K : PySem.W.Frag} {dn : Rho → Hp → α → β → Prop} {dn' : Rho → Hp → α' → β' → Prop} {W : WX} {m : En → MH → R α} {f : α → En → MH → R α'} {σ : L2.St} {H : Hp} {Q : β' → Hp → Prop} {Q1 : β → Hp → Prop}
    (h : tm K dn' W (fun env M => (m env M).bind fun a M1 => f a env M1) σ H Q)
    (k : ∀ a M1 ρ1 H1 v env, Rel K ρ1 M1 H1 → EnR K ρ1 H1 env σ → dn ρ1 H1 a v → Ok K ρ1 H1 dn' (fun c d H' => W c d σ H') Q (f a env M1) → Q1 v H1) : tm K dn W m σ H Q1 := by
  obtain ⟨ρ, M, env, Rl, E, h⟩ := h
  exact ⟨ρ, M, env, Rl, E, h.bind fun a M1 ρ1 H1 v _ S R1 d h1 => k a M1 ρ1 H1 v env R1 (E.step Rl S) d h1⟩
theorem tm_mono {α β : Type} {K : PySem.W.Frag} {dn : Rho → Hp → α → β → Prop} {W : WX} {m : En → MH → R α} {σ : L2.St} {H : Hp} {Q Q' : β → Hp → Prop} (h : tm K dn W m σ H Q) (q : ∀ v H', Q v H' → Q' v H') : tm K dn W m σ H Q' := by
  obtain ⟨ρ, M, env, Rl, E, h⟩ := h
  exact ⟨ρ, M, env, Rl, E, h.mono q⟩

/-- e is m -/
def SE (X : Cx) (W : WX) (e : Expr) (m : ME) : Prop := PE X e (tm X.K (DnD X.K) W m)
def ST (X : Cx) (W : WX) (e : Expr) (m : MT) : Prop := PT X e (tm X.K DnB W m)
def SA (X : Cx) (W : WX) (es : List Expr) (m : MA) : Prop := PA X es (tm X.K (DnA X.K) W m)

theorem pe_imp {X : Cx} {e : Expr} {t t' : TE} (h : PE X e t) (i : ∀ σ H Q, t' σ H Q → t σ H Q) : PE X e t' := ⟨fun pins s σ H Q I q => h.run pins s σ H Q I (i σ H Q q)⟩
theorem pt_imp {X : Cx} {e : Expr} {t t' : TT} (h : PT X e t) (i : ∀ σ H Q, t' σ H Q → t σ H Q) : PT X e t' := ⟨fun pins s σ H Q I q => h.run pins s σ H Q I (i σ H Q q)⟩
theorem pa_imp {X : Cx} {e : List Expr} {t t' : TA} (h : PA X e t) (i : ∀ σ H Q, t' σ H Q → t σ H Q) : PA X e t' := ⟨fun pos pins s σ H Q I q => h.run pos pins s σ H Q I (i σ H Q q)⟩
/-- the rule may be chosen by what the function tells -/
theorem pe_by {X : Cx} {e : Expr} {t' : TE} (h : ∀ σ H Q, t' σ H Q → ∃ t : TE, PE X e t ∧ t σ H Q) : PE X e t' := ⟨fun pins s σ H Q I q => by
  obtain ⟨t, p, q⟩ := h σ H Q q
  exact p.run pins s σ H Q I q⟩
theorem pt_by {X : Cx} {e : Expr} {t' : TT} (h : ∀ σ H Q, t' σ H Q → ∃ t : TT, PT X e t ∧ t σ H Q) : PT X e t' := ⟨fun pins s σ H Q I q => by
  obtain ⟨t, p, q⟩ := h σ H Q q
  exact p.run pins s σ H Q I q⟩

/-! ### names and constants -/
def mVar (i : Nat) : ME := fun env M => match env[i]? with
  | some (some d) => .ok d M
  | _ => .err
def mC (d : D) : ME := fun _ M => .ok d M
section
variable {X : Cx} {W : WX}
theorem s_var {i : Nat} {x : Str} {pos : Pos} (hN : X.N[i]? = some x := by rfl) (hv : Vis X.env.scope x := by first | exact Or.inl rfl | exact Or.inr (Or.inl rfl) | exact Or.inr (Or.inr rfl)) (hd : (x == ("__debug__" : Str)) = false := by decide)
    (hcd : (x == ("__classdict__" : Str)) = false := by decide) : SE X W (.Name x pos) (mVar i) := by
  refine pe_imp (pe_var hN hv hd hcd) fun σ H Q h => ?_
  obtain ⟨ρ, M, env, Rl, E, h⟩ := h
  unfold mVar at h
  cases e : env[i]? with
  | none => rw [e] at h; exact h.elim
  | some o =>
    cases o with
    | none => rw [e] at h; exact h.elim
    | some d =>
      rw [e] at h
      obtain ⟨v, h1, h2⟩ := E.get i d e
      exact ⟨v, h1, h ρ H v (Stp.refl (K := X.K) (M := M)) Rl h2⟩
/-- a value that is so in every heap -/
def Fix (K : PySem.W.Frag) (d : D) (v : V) : Prop := ∀ ρ H, Den K ρ H d v
theorem s_const {e : Expr} {d : D} {v : V} (h : PE X e (tC v)) (f : Fix X.K d v) : SE X W e (mC d) := by
  refine pe_imp h fun σ H Q q => ?_
  obtain ⟨ρ, M, env, Rl, E, q⟩ := q
  exact q ρ H v (Stp.refl (K := X.K) (M := M)) Rl (f ρ H)
theorem s_int {i j pos} : SE X W (.Constant (.int i) j pos) (mC (.int i)) := s_const pe_int fun _ _ => den_int.mpr rfl
theorem s_bl {b j pos} : SE X W (.Constant (.bool b) j pos) (mC (.bl b)) := s_const pe_bl fun _ _ => den_bl.mpr rfl
theorem s_non {j pos} : SE X W (.Constant .none j pos) (mC .non) := s_const pe_non fun _ _ => den_non.mpr rfl
theorem s_str {x j pos} : SE X W (.Constant (.str x) j pos) (mC (.str x)) := s_const pe_str fun _ _ => den_str.mpr rfl
theorem s_glob {x : Str} {d : D} {v : V} {u : Value} {pos : Pos} (hm : X.mg x = some u) (r : RelV v u) (f : Fix X.K d v) (hg : Gl X x := by rfl) (hd : (x == ("__debug__" : Str)) = false := by decide) : SE X W (.Name x pos) (mC d) := s_const (pe_glob hg hm r hd) f
theorem fix_int {K : PySem.W.Frag} {i : Int} : Fix K (.int i) (.int i) := fun _ _ => den_int.mpr rfl
theorem fix_str {K : PySem.W.Frag} {i : Str} : Fix K (.str i) (.str i) := fun _ _ => den_str.mpr rfl
theorem fix_adr {K : PySem.W.Frag} {a : Addr} : Fix K (.adr a) (.ref a) := fun _ _ => den_adr.mpr rfl

/-! ### lists of arguments -/
def aNil : MA := fun _ M => .ok [] M
def aCons (m : ME) (r : MA) : MA := fun env M => (m env M).bind fun d M1 => (r env M1).bind fun ds M2 => .ok (d :: ds) M2
theorem a_nil : SA X W [] aNil := by
  refine pa_imp pa_nil fun σ H Q h => ?_
  obtain ⟨ρ, M, env, Rl, E, h⟩ := h
  exact h ρ H [] (Stp.refl (K := X.K) (M := M)) Rl (dens_nil.mpr rfl)
theorem a_cons {e : Expr} {es : List Expr} {m : ME} {r : MA} (h1 : SE X W e m) (h2 : SA X W es r) (hs : starEach (e :: es) X.env = (false, eval e X.env) :: starEach es X.env := by rfl) : SA X W (e :: es) (aCons m r) := by
  refine pa_imp (pa_cons h1 h2 hs) fun σ H Q h => ?_
  refine tm_bind (f := fun d env M1 => (r env M1).bind fun ds M2 => .ok (d :: ds) M2) h fun d M1 ρ1 H1 v env R1 E1 dv h => ?_
  refine ⟨ρ1, M1, env, R1, E1, h.bind fun ds M2 ρ2 H2 vs _ S R2 dd h => ?_⟩
  exact h ρ2 H2 (v :: vs) (Stp.refl (K := X.K) (M := M2)) R2 (dens_cons.mpr ⟨v, vs, rfl, Den.step R1 S _ _ dv, dd⟩)

/-! ### values out of values -/
/-- a built-in operation on a list of values: told by f -/
abbrev Op1 := D → MH → R D
abbrev Op2 := D → D → MH → R D
abbrev OpN := List D → MH → R D
def m1 (f : Op1) (a : ME) : ME := fun env M => (a env M).bind fun x M1 => f x M1
def m2 (f : Op2) (a b : ME) : ME := fun env M => (a env M).bind fun x M1 => (b env M1).bind fun y M2 => f x y M2
def mN (f : OpN) (a : MA) : ME := fun env M => (a env M).bind fun xs M1 => f xs M1
/-- what an operation on values does -/
abbrev ROk (K : PySem.W.Frag) (ρ : Rho) (H : Hp) (Q : VK) (r : R D) : Prop := Ok K ρ H (DnD K) (fun _ _ _ => False) Q r
def Op2R (X : Cx) (f : Value → Value → Sem Value) (g : Op2) : Prop := ∀ ρ M H x y v w Q, Rel X.K ρ M H → Den X.K ρ H x v → Den X.K ρ H y w → ROk X.K ρ H Q (g x y M) → ∃ r : R2, OpR X f r ∧ r v w H Q
/-- g raises nothing -/
def Quiet2 (g : Op2) : Prop := ∀ x y M c fs M', g x y M ≠ .exc c fs M'
theorem ok_quiet {α β : Type} {K : PySem.W.Frag} {ρ : Rho} {H : Hp} {dn : Rho → Hp → α → β → Prop} {W W' : Value → Option Addr → Hp → Prop} {Q : β → Hp → Prop} {r : R α} (q : ∀ c fs M, r ≠ .exc c fs M) (h : Ok K ρ H dn W Q r) : Ok K ρ H dn W' Q r := by
  cases r with
  | ok a M => exact h
  | err => exact h
  | exc c fs M => exact absurd rfl (q c fs M)
theorem s_bin {op : Operator} {g : Op2} {a b : Expr} {pos : Pos} {ma mb : ME} (o : Op2R X (binaryOp op) g) (q : Quiet2 g) (ha : SE X W a ma) (hb : SE X W b mb) : SE X W (.BinOp a op b pos) (m2 g ma mb) := by
  refine ⟨fun pins s σ H Q I h => ?_⟩
  refine wpAny_BinOp (binT ha hb (R := fun v w H2 => ∃ r : R2, OpR X (binaryOp op) r ∧ r v w H2 Q) I ?_ fun v u s2 x y H2 I2 rx ry ⟨r, hr, hq⟩ => hr pins s2 σ H2 x y v u Q I2 rx ry hq)
  refine tm_bind (f := fun x env M1 => (mb env M1).bind fun y M2 => g x y M2) h fun x M1 ρ1 H1 v env R1 E1 dx h => ?_
  exact ⟨ρ1, M1, env, R1, E1, h.bind fun y M2 ρ2 H2 w _ S R2 dy h => o ρ2 M2 H2 x y v w Q R2 (Den.step R1 S _ _ dx) dy (ok_quiet (q x y M2) h)⟩
theorem s_cmp {op : CmpOp} {g : Op2} {a b : Expr} {pos : Pos} {ma mb : ME} (o : Op2R X (compareOp op) g) (q : Quiet2 g) (ha : SE X W a ma) (hb : SE X W b mb) (hm : behindInMarks op b = false) : SE X W (.Compare a [op] [b] pos) (m2 g ma mb) := by
  refine ⟨fun pins s σ H Q I h => ?_⟩
  refine wpAny_Compare1 (binT ha hb (R := fun v w H2 => ∃ r : R2, OpR X (compareOp op) r ∧ r v w H2 Q) I ?_ fun v u s2 x y H2 I2 rx ry ⟨r, hr, hq⟩ => hr pins s2 σ H2 x y v u Q I2 rx ry hq) hm
  refine tm_bind (f := fun x env M1 => (mb env M1).bind fun y M2 => g x y M2) h fun x M1 ρ1 H1 v env R1 E1 dx h => ?_
  exact ⟨ρ1, M1, env, R1, E1, h.bind fun y M2 ρ2 H2 w _ S R2 dy h => o ρ2 M2 H2 x y v w Q R2 (Den.step R1 S _ _ dx) dy (ok_quiet (q x y M2) h)⟩
end
end Mi

end

section
/-! Mi, third part: the operators, by what they do with data. -/
namespace Mi
open PySem PySem.Spec PyProof.Rows L2

/-- what a body may lean on -/
structure Cf (X : Cx) : Prop where
  hu : X.A.units + 100 < cLine
  guards : X.A.guards = some []
abbrev lim : Nat := 1000000
theorem lim_le {n : Nat} (h : n ≤ lim) : n ≤ sizeLine := Nat.le_trans h (by decide)
theorem lim_lt {n : Nat} (h : n < lim) : n < sizeLine := Nat.lt_of_lt_of_le h (by decide)

/-! ### lists joined, wherever they stand -/
section
variable {prog : Program} {w : World} {A : Around} {E : Value → Shared → Prop} {s : Shared}
theorem joinL {l b : Addr} {us ws : List Value} {Q : Value → Shared → Prop} (p1 : s.heap.IsList l us.toArray) (p2 : s.heap.IsList b ws.toArray) (z : us.length + ws.length ≤ sizeLine)
    (q : Q (.ref s.heap.objs.size) { s with heap := s.heap.push { cls := .type "list", data := .seq (us ++ ws).toArray } }) : wpAny (model prog w) A (binaryOp .Add (.ref l) (.ref b)) Q E s := by
  obtain ⟨⟨k1, d1, a1, t1⟩, g1, e1, n1, f1⟩ := p1
  obtain ⟨⟨k2, d2, a2, t2⟩, g2, e2, n2, f2⟩ := p2
  simp only at e1 f1 e2 f2
  subst e1 f1 e2 f2
  have ea : us.toArray ++ ws.toArray = (us ++ ws).toArray := by simp
  refine concat_meets ⟨_, g1, rfl⟩ ⟨_, g2, rfl⟩ noFill_list_add seq_list_add
    PySem.F.slot_list_add PySem.F.entry_list_add (PySem.F.args_list_add_2 _ _)
    (list_addW l b us.toArray ws.toArray n1 n2 d1 d2 t1 t2 (by simpa using z)) ⟨g1, g2, ?_⟩
  rw [ea]
  exact q
end
section
variable {X : Cx}
def rJoin (K : PySem.W.Frag) : R2 := fun x y H Q => ∃ l b xs zs, x = .ref l ∧ y = .ref b ∧ SqL K H l xs ∧ SqL K H b zs ∧ xs.length + zs.length ≤ sizeLine ∧ ∀ p, H p = none → Q (.ref p) (upd H p (.lst (xs ++ zs)))
theorem op_join : OpR X (binaryOp .Add) (rJoin X.K) := by
  intro pins s σ H x y v u Q I rx ry h
  obtain ⟨l, b, xs, zs, rfl, rfl, h1, h2, hz, q⟩ := h
  cases rx
  cases ry
  obtain ⟨its, r1, p1, _⟩ := I.list h1
  obtain ⟨its2, r2, p2, _⟩ := I.list h2
  have e1 := r1.length
  have e2 := r2.length
  refine joinL p1.isList p2.isList (by omega) ?_
  exact ⟨.ref _, _, I.lnew (t' := s.toks) (r1.append r2) (by rw [List.length_append]; omega), rfl, q _ I.fresh⟩

/-! ### + -/
def addD : Op2 := fun x y M => match x, y with
  | .int i, .int j => .ok (.int (i + j)) M
  | .str a, .str b => if a.length + b.length ≤ lim then .ok (.str (a ++ b)) M else .err
  | .tup xs, .tup ys => if xs.length + ys.length ≤ lim then .ok (.tup (xs ++ ys)) M else .err
  | .lst xs, .lst ys => if xs.length + ys.length ≤ lim then .ok (.lst (xs ++ ys)) M else .err
  | .ref l, .lst ys => match M[l]? with
    | some (.lst xs) => if xs.length + ys.length ≤ lim then .ok (.lst (xs ++ ys)) M else .err
    | _ => .err
  | _, _ => .err
theorem here {α : Type} {K : PySem.W.Frag} {ρ : Rho} {M : MH} {H : Hp} {dn : Rho → Hp → D → α → Prop} {W : Value → Option Addr → Hp → Prop} {Q : α → Hp → Prop} {d : D} {v : α} (Rl : Rel K ρ M H) (h : Ok K ρ H dn W Q (.ok d M)) (e : dn ρ H d v) : Q v H :=
  h ρ H v (Stp.refl (K := K) (M := M)) Rl e
theorem newT {K : PySem.W.Frag} {ρ : Rho} {M : MH} {H : Hp} {W : Value → Option Addr → Hp → Prop} {Q : VK} {ds : List D} {xs : List V} (Rl : Rel K ρ M H) (h : Ok K ρ H (DnD K) W Q (.ok (.tup ds) M)) (e : Dens K ρ H ds xs) : ∀ p, H p = none → Q (.ref p) (upd H p (.tup xs)) :=
  fun p hp => h ρ _ _ (Stp.alloc hp) (Rl.alloc hp) (den_newT Rl hp e)
theorem newL {K : PySem.W.Frag} {ρ : Rho} {M : MH} {H : Hp} {W : Value → Option Addr → Hp → Prop} {Q : VK} {ds : List D} {xs : List V} (Rl : Rel K ρ M H) (h : Ok K ρ H (DnD K) W Q (.ok (.lst ds) M)) (e : Dens K ρ H ds xs) : ∀ p, H p = none → Q (.ref p) (upd H p (.lst xs)) :=
  fun p hp => h ρ _ _ (Stp.alloc hp) (Rl.alloc hp) (den_newL Rl hp e)
theorem o_add : Op2R X (binaryOp .Add) addD := by
  intro ρ M H x y v w Q Rl dx dy h
  unfold addD at h
  split at h
  · rw [den_int] at dx dy
    subst dx dy
    exact ⟨_, op_add, _, _, rfl, rfl, here Rl h (den_int.mpr rfl)⟩
  · rw [den_str] at dx dy
    subst dx dy
    split at h
    · rename_i z
      exact ⟨_, op_add_str, _, _, rfl, rfl, lim_le z, here Rl h (den_str.mpr rfl)⟩
    · exact h.elim
  · rename_i ds es
    obtain ⟨a, xs, rfl, hs, hd⟩ := den_tup.mp dx
    obtain ⟨b, ys, rfl, hs2, hd2⟩ := den_tup.mp dy
    split at h
    · rename_i z
      refine ⟨_, op_catA, a, b, xs, ys, rfl, rfl, hs, hs2, by rw [← hd.length, ← hd2.length]; exact lim_le z, fun e => ?_, fun _ e => ?_, fun _ _ => newT Rl h (hd.append hd2)⟩
      · subst e
        have e2 : ds = [] := List.eq_nil_of_length_eq_zero hd.length
        subst e2
        exact here Rl h dy
      · subst e
        have e2 : es = [] := List.eq_nil_of_length_eq_zero hd2.length
        subst e2
        rw [List.append_nil] at h
        exact here Rl h dx
    · exact h.elim
  · rename_i ds es
    obtain ⟨a, xs, rfl, hs, hd⟩ := den_lst.mp dx
    obtain ⟨b, ys, rfl, hs2, hd2⟩ := den_lst.mp dy
    split at h
    · rename_i z
      exact ⟨_, op_join, a, b, xs, ys, rfl, rfl, hs.sq, hs2.sq, by rw [← hd.length, ← hd2.length]; exact lim_le z, newL Rl h (hd.append hd2)⟩
    · exact h.elim
  · rename_i l es
    obtain ⟨a, o, rfl, hl, ho⟩ := den_ref.mp dx
    obtain ⟨b, ys, rfl, hs2, hd2⟩ := den_lst.mp dy
    split at h
    · rename_i ds hm
      obtain ⟨a', xs, h1, h2, hd⟩ := Rl.obj l _ hm
      rw [hl] at h1
      cases h1
      have e := ho a' rfl
      subst e
      split at h
      · rename_i z
        exact ⟨_, op_join, _, b, xs, ys, rfl, rfl, SqL.of h2, hs2.sq, by rw [← hd.length, ← hd2.length]; exact lim_le z, newL Rl h (hd.append hd2)⟩
      · exact h.elim
    · exact h.elim
  · exact h.elim
theorem q_add : Quiet2 addD := by
  intro x y M c fs M' e
  unfold addD at e
  (repeat' split at e) <;> cases e

/-! ### the other operators on whole numbers -/
def int2 (g : Int → Int → Option Int) : Op2 := fun x y M => match x, y with
  | .int i, .int j => match g i j with
    | some k => .ok (.int k) M
    | none => .err
  | _, _ => .err
theorem q_int2 {g : Int → Int → Option Int} : Quiet2 (int2 g) := by
  intro x y M c fs M' e
  unfold int2 at e
  (repeat' split at e) <;> cases e
theorem o_int2 {f : Value → Value → Sem Value} {g : Int → Int → Option Int} {C : Int → Int → Prop} {k : Int → Int → V} (o : OpR X f (rI C k)) (hc : ∀ i j z, g i j = some z → C i j ∧ k i j = .int z) : Op2R X f (int2 g) := by
  intro ρ M H x y v w Q Rl dx dy h
  unfold int2 at h
  split at h
  · rename_i i j
    rw [den_int] at dx dy
    subst dx dy
    split at h
    · rename_i z e
      obtain ⟨h1, h2⟩ := hc i j z e
      refine ⟨_, o, i, j, rfl, rfl, h1, ?_⟩
      rw [h2]
      exact here Rl h (den_int.mpr rfl)
    · exact h.elim
  · exact h.elim
theorem o_int2' {f : Value → Value → Sem Value} {g : Int → Int → Option Int} {k : Int → Int → V} (o : OpR X f (rI0 k)) (hc : ∀ i j z, g i j = some z → k i j = .int z) : Op2R X f (int2 g) := by
  intro ρ M H x y v w Q Rl dx dy h
  unfold int2 at h
  split at h
  · rename_i i j
    rw [den_int] at dx dy
    subst dx dy
    split at h
    · rename_i z e
      refine ⟨_, o, i, j, rfl, rfl, ?_⟩
      rw [hc i j z e]
      exact here Rl h (den_int.mpr rfl)
    · exact h.elim
  · exact h.elim
def subD : Op2 := int2 fun i j => some (i - j)
theorem o_sub : Op2R X (binaryOp .Sub) subD := o_int2' op_sub fun i j z e => by cases e; rfl
def modD : Op2 := int2 fun i j => if 0 < j then some (i % j) else none
theorem o_mod : Op2R X (binaryOp .Mod) modD := o_int2 op_mod fun i j z e => by
  split at e
  · cases e; exact ⟨by assumption, rfl⟩
  · cases e
def fdivD : Op2 := int2 fun i j => if 0 < j ∧ j.natAbs.log2 < 9000 then some (i / j) else none
theorem o_fdiv : Op2R X (binaryOp .FloorDiv) fdivD := o_int2 op_fdivW fun i j z e => by
  split at e
  · cases e; exact ⟨by assumption, rfl⟩
  · cases e
def shrD : Op2 := int2 fun i j => if 0 ≤ j then some (i / 2 ^ j.toNat) else none
theorem o_shr : Op2R X (binaryOp .RShift) shrD := o_int2 op_shr fun i j z e => by
  split at e
  · cases e; exact ⟨by assumption, rfl⟩
  · cases e
def shlD : Op2 := int2 fun i j => if 0 ≤ j ∧ j ≤ 1000000 ∧ i.natAbs < 2 ^ 64 then some (i * 2 ^ j.toNat) else none
theorem o_shl : Op2R X (binaryOp .LShift) shlD := o_int2 op_shl fun i j z e => by
  split at e
  · cases e; exact ⟨by assumption, rfl⟩
  · cases e
def powD : Op2 := int2 fun i j => if 0 ≤ j ∧ j ≤ 1000000 ∧ i.natAbs < 2 ^ 64 then some (i ^ j.toNat) else none
theorem o_pow : Op2R X (binaryOp .Pow) powD := o_int2 op_pow fun i j z e => by
  split at e
  · cases e; exact ⟨by assumption, rfl⟩
  · cases e
def andD : Op2 := int2 fun i j => some (Builtin.bitAnd i j)
theorem o_and : Op2R X (binaryOp .BitAnd) andD := o_int2' op_and fun i j z e => by cases e; rfl
/-! ### times: numbers, a tuple so many times -/
def mulD : Op2 := fun x y M => match x, y with
  | .int i, .int j => if i.natAbs.log2 + j.natAbs.log2 < 1000000 ∨ i.natAbs < 2 ^ 64 ∨ j.natAbs < 2 ^ 64 then .ok (.int (i * j)) M else .err
  | .tup ds, .int k => if ds ≠ [] ∧ 2 ≤ k ∧ k ≤ 1000 ∧ ds.length ≤ 1000 then .ok (.tup (List.replicate k.toNat ds).flatten) M else .err
  | .str x, .int k => if 1 ≤ k ∧ k ≤ 1000 ∧ x.length ≤ 1000 then .ok (.str (Txt.mul x k)) M else .err
  | _, _ => .err
theorem Dens.rep {K : PySem.W.Frag} {ρ : Rho} {H : Hp} {ds : List D} {xs : List V} (h : Dens K ρ H ds xs) : ∀ n : Nat, Dens K ρ H (List.replicate n ds).flatten (List.replicate n xs).flatten
  | 0 => by simpa using dens_nil.mpr rfl
  | n + 1 => by
    rw [List.replicate_succ, List.replicate_succ, List.flatten_cons, List.flatten_cons]
    exact h.append (Dens.rep h n)
theorem mul_fits {x : Str} {k : Int} (h1 : 1 ≤ k) (h2 : k ≤ 1000) (h3 : x.length ≤ 1000) : MulOk x k := by
  refine ⟨?_, fun _ _ => ?_, fun _ _ => ?_⟩
  · rw [Bool.or_eq_false_iff]
    exact ⟨decide_eq_false (by omega), decide_eq_false (by omega)⟩
  · have e : (1000 : Int) ≤ (2 ^ 63 - 1) / k := Int.le_ediv_of_mul_le (by omega) (by omega)
    omega
  · have e : x.length * k.toNat ≤ 1000 * 1000 := Nat.mul_le_mul h3 (by omega)
    unfold Builtin.Str.tooLong
    exact decide_eq_false (by have : (1000 * 1000 : Nat) ≤ sizeLine := by decide
                              omega)
theorem op_mulS : OpR X (binaryOp .Mult) (fun x y H Q => ∃ (z : Str) (k : Int), x = .str z ∧ y = .int k ∧ MulOk z k ∧ Q (.str (Txt.mul z k)) H) := by
  intro pins s σ H x y v u Q I rx ry h
  obtain ⟨z, k, rfl, rfl, hk, q⟩ := h
  obtain ⟨t, rfl⟩ := rx
  obtain ⟨t', rfl⟩ := ry
  exact SB.mul hk fun t2 n => ⟨.str _, H, I.kept (t' := n) fun _ _ e => e, ⟨_, rfl⟩, q⟩
theorem o_mul : Op2R X (binaryOp .Mult) mulD := by
  intro ρ M H x y v w Q Rl dx dy h
  unfold mulD at h
  split at h
  · rw [den_int] at dx dy
    subst dx dy
    split at h
    · rename_i z
      rcases z with z | z | z
      · exact ⟨_, op_mulW, _, _, rfl, rfl, z, here Rl h (den_int.mpr rfl)⟩
      · exact ⟨_, op_mul, _, _, rfl, rfl, .inl ⟨by omega, by omega⟩, here Rl h (den_int.mpr rfl)⟩
      · exact ⟨_, op_mul, _, _, rfl, rfl, .inr ⟨by omega, by omega⟩, here Rl h (den_int.mpr rfl)⟩
    · exact h.elim
  · rename_i ds k
    obtain ⟨a, xs, rfl, hs, hd⟩ := den_tup.mp dx
    rw [den_int] at dy
    subst dy
    split at h
    · rename_i z
      obtain ⟨z1, z2, z3, z4⟩ := z
      refine ⟨_, op_repT, a, k, xs, rfl, rfl, hs, fun e => ?_, z2, z3, by rw [← hd.length]; exact z4, newT Rl h (hd.rep _)⟩
      subst e
      exact z1 (List.eq_nil_of_length_eq_zero hd.length)
    · exact h.elim
  · rename_i z k
    rw [den_str] at dx
    rw [den_int] at dy
    subst dx dy
    split at h
    · rename_i c
      exact ⟨_, op_mulS, z, k, rfl, rfl, mul_fits c.1 c.2.1 c.2.2, here Rl h (den_str.mpr rfl)⟩
    · exact h.elim
  · exact h.elim
theorem q_mul : Quiet2 mulD := by
  intro x y M c fs M' e
  unfold mulD at e
  (repeat' split at e) <;> cases e
/-! ### - in front -/
def negD : Op1 := fun x M => match x with
  | .int i => .ok (.int (-i)) M
  | _ => .err
theorem s_neg {W : WX} {a : Expr} {pos : Pos} {ma : ME} (ha : SE X W a ma) : SE X W (.UnaryOp .USub a pos) (m1 negD ma) := by
  refine pe_imp (pe_un un_neg ha) fun σ H Q h => ?_
  refine tm_bind (f := fun x _ M1 => negD x M1) h fun x M1 ρ1 H1 v env R1 E1 dx h => ?_
  unfold negD at h
  split at h
  · rw [show v = _ from den_int.mp dx]
    exact ⟨_, rfl, here R1 h (den_int.mpr rfl)⟩
  · exact h.elim
end
end Mi

end

section
/-! Mi, fourth part: comparisons, tests, and, or, not, one or the other. -/
namespace Mi
open PySem PySem.Spec PyProof.Rows L2

/-! ### data, as the library compares it -/
mutual
def py : D → PyData
  | .non => .none
  | .bl b => .bool b
  | .int i => .int i
  | .str x => .str x
  | .tup ds => .tuple (pys ds)
  | .lst ds => .list (pys ds)
  | .ty _ => .none
  | .adr _ => .none
  | .ref _ => .none
  | .dct _ _ => .none
  | .fn _ => .none
  | .exo _ _ _ _ => .none
def pys : List D → List PyData
  | [] => []
  | d :: ds => py d :: pys ds
end
mutual
/-- plain data, not deeper than so -/
def flat : D → Nat → Bool
  | .non, _ => true
  | .bl _, _ => true
  | .int _, _ => true
  | .str x, _ => PyData.strOk x
  | .tup ds, n => decide (0 < n) && flats ds (n - 1)
  | .lst ds, n => decide (0 < n) && flats ds (n - 1)
  | .ty _, _ => false
  | .adr _, _ => false
  | .ref _, _ => false
  | .dct _ _, _ => false
  | .fn _, _ => false
  | .exo _ _ _ _, _ => false
def flats : List D → Nat → Bool
  | [], _ => true
  | d :: ds, n => flat d n && flats ds n
end
mutual
theorem flat_can : ∀ (d : D) (n : Nat), flat d n = true → PyData.canLay0 (py d) = true ∧ PyData.depth (py d) ≤ n
  | .non, n, _ => by simp [py, PyData.canLay0, PyData.depth]
  | .bl _, n, _ => by simp [py, PyData.canLay0, PyData.depth]
  | .int _, n, _ => by simp [py, PyData.canLay0, PyData.depth]
  | .str x, n, h => by
    simp only [flat] at h
    simp [py, PyData.canLay0, PyData.depth, h]
  | .tup ds, n, h => by
    simp only [flat, Bool.and_eq_true, decide_eq_true_eq] at h
    have := flats_can ds (n - 1) h.2
    simp only [py, PyData.canLay0, PyData.depth]
    exact ⟨this.1, by omega⟩
  | .lst ds, n, h => by
    simp only [flat, Bool.and_eq_true, decide_eq_true_eq] at h
    have := flats_can ds (n - 1) h.2
    simp only [py, PyData.canLay0, PyData.depth]
    exact ⟨this.1, by omega⟩
  | .ty _, _, h => by simp [flat] at h
  | .adr _, _, h => by simp [flat] at h
  | .ref _, _, h => by simp [flat] at h
  | .dct _ _, _, h => by simp [flat] at h
  | .fn _, _, h => by simp [flat] at h
  | .exo _ _ _ _, _, h => by simp [flat] at h
theorem flats_can : ∀ (ds : List D) (n : Nat), flats ds n = true → PyData.canLayAll0 (pys ds) = true ∧ PyData.depthAll (pys ds) ≤ n
  | [], n, _ => by simp [pys, PyData.canLayAll0, PyData.depthAll]
  | d :: ds, n, h => by
    simp only [flats, Bool.and_eq_true] at h
    have h1 := flat_can d n h.1
    have h2 := flats_can ds n h.2
    simp only [pys, PyData.canLayAll0, PyData.depthAll, h1.1, h2.1, Bool.and_self, true_and]
    omega
end
theorem flat_shaped {d : D} (h : flat d 64 = true) : SeqAt.shaped (py d) = true := by
  obtain ⟨h1, h2⟩ := flat_can d 64 h
  unfold SeqAt.shaped
  rw [h1, decide_eq_true h2]
  rfl
section
variable {K : PySem.W.Frag} {ρ : Rho} {M : MH} {H : Hp}
mutual
theorem flat_dp : ∀ (d : D) (n : Nat) (v : V), flat d n = true → Den K ρ H d v → Dp K H v (py d)
  | .non, n, v, _, h => by rw [den_non] at h; subst h; unfold py; exact .non
  | .bl b, n, v, _, h => by rw [den_bl] at h; subst h; unfold py; exact .bl b
  | .int i, n, v, _, h => by rw [den_int] at h; subst h; unfold py; exact .int i
  | .str x, n, v, _, h => by rw [den_str] at h; subst h; unfold py; exact .str x
  | .tup ds, n, v, f, h => by
    simp only [flat, Bool.and_eq_true, decide_eq_true_eq] at f
    obtain ⟨a, xs, rfl, h1, h2⟩ := den_tup.mp h
    unfold py
    exact .tup h1 (flats_dp ds (n - 1) xs f.2 h2)
  | .lst ds, n, v, f, h => by
    simp only [flat, Bool.and_eq_true, decide_eq_true_eq] at f
    obtain ⟨a, xs, rfl, h1, h2⟩ := den_lst.mp h
    unfold py
    exact .lst h1.sq (flats_dp ds (n - 1) xs f.2 h2)
  | .ty _, _, _, f, _ => by simp [flat] at f
  | .adr _, _, _, f, _ => by simp [flat] at f
  | .ref _, _, _, f, _ => by simp [flat] at f
  | .dct _ _, _, _, f, _ => by simp [flat] at f
  | .fn _, _, _, f, _ => by simp [flat] at f
  | .exo _ _ _ _, _, _, f, _ => by simp [flat] at f
theorem flats_dp : ∀ (ds : List D) (n : Nat) (vs : List V), flats ds n = true → Dens K ρ H ds vs → DpAll K H vs (pys ds)
  | [], n, vs, _, h => by rw [dens_nil] at h; subst h; unfold pys; exact .nil
  | d :: ds, n, vs, f, h => by
    simp only [flats, Bool.and_eq_true] at f
    obtain ⟨v, r, rfl, h1, h2⟩ := dens_cons.mp h
    unfold pys
    exact .cons (flat_dp d n v f.1 h1) (flats_dp ds n r f.2 h2)
end
end
def deq (x y : D) : Bool := PyData.eqv (py x) (py y)
def deqs (xs ys : List D) : Bool := PyData.eqvAll (pys xs) (pys ys)

/-! ### == and != -/
def isStr : D → Bool
  | .str _ => true
  | _ => false
/-- texts, or plain data -/
def likeD (x y : D) : Bool := (isStr x && isStr y) || (flat x 64 && flat y 64)
def eqD : Op2 := fun x y M => if likeD x y then .ok (.bl (deq x y)) M else .err
def neD : Op2 := fun x y M => if likeD x y then .ok (.bl (!deq x y)) M else .err
theorem two_str {K : PySem.W.Frag} {ρ : Rho} {H : Hp} {x y : D} {v w : V} (hx : isStr x = true) (hy : isStr y = true) (dx : Den K ρ H x v) (dy : Den K ρ H y w) : ∃ a b, v = .str a ∧ w = .str b ∧ deq x y = decide (V.str a = V.str b) := by
  cases x <;> first
    | (cases hx; done)
    | skip
  cases y <;> first
    | (cases hy; done)
    | skip
  rename_i a b
  refine ⟨a, b, den_str.mp dx, den_str.mp dy, ?_⟩
  rw [show deq (.str a) (.str b) = (a == b) from rfl, Bool.eq_iff_iff, beq_iff_eq, decide_eq_true_iff, V.str.injEq]
theorem q_eq : Quiet2 eqD := by
  intro x y M c fs M' e
  unfold eqD at e
  split at e <;> cases e
theorem q_ne : Quiet2 neD := by
  intro x y M c fs M' e
  unfold neD at e
  split at e <;> cases e
section
variable {X : Cx}
theorem o_eq (c : Cf X) : Op2R X (compareOp .Eq) eqD := by
  intro ρ M H x y v w Q Rl dx dy h
  unfold eqD at h
  split at h
  · rename_i z
    unfold likeD at z
    simp only [Bool.or_eq_true, Bool.and_eq_true] at z
    rcases z with z | z
    · obtain ⟨a, b, rfl, rfl, e⟩ := two_str z.1 z.2 dx dy
      refine ⟨_, op_eq, rfl, ?_⟩
      rw [← e]
      exact here Rl h (den_bl.mpr rfl)
    exact ⟨_, op_eqD (by have := c.hu; omega), _, _, flat_dp x 64 v z.1 dx, flat_dp y 64 w z.2 dy, flat_shaped z.1, flat_shaped z.2, here Rl h (den_bl.mpr rfl)⟩
  · exact h.elim
theorem o_ne (c : Cf X) : Op2R X (compareOp .NotEq) neD := by
  intro ρ M H x y v w Q Rl dx dy h
  unfold neD at h
  split at h
  · rename_i z
    unfold likeD at z
    simp only [Bool.or_eq_true, Bool.and_eq_true] at z
    rcases z with z | z
    · obtain ⟨a, b, rfl, rfl, e⟩ := two_str z.1 z.2 dx dy
      refine ⟨_, op_ne, rfl, ?_⟩
      rw [← e]
      exact here Rl h (den_bl.mpr rfl)
    exact ⟨_, op_neD (by have := c.hu; omega), _, _, flat_dp x 64 v z.1 dx, flat_dp y 64 w z.2 dy, flat_shaped z.1, flat_shaped z.2, here Rl h (den_bl.mpr rfl)⟩
  · exact h.elim

/-! ### order of whole numbers -/
def cmpD (g : Int → Int → Bool) : Op2 := fun x y M => match x, y with
  | .int i, .int j => .ok (.bl (g i j)) M
  | _, _ => .err
theorem q_cmpD {g : Int → Int → Bool} : Quiet2 (cmpD g) := by
  intro x y M c fs M' e
  unfold cmpD at e
  split at e <;> cases e
theorem o_cmpD {f : Value → Value → Sem Value} {g : Int → Int → Bool} (o : OpR X f (rI0 fun i j => .bl (g i j))) : Op2R X f (cmpD g) := by
  intro ρ M H x y v w Q Rl dx dy h
  unfold cmpD at h
  split at h
  · rw [den_int] at dx dy
    subst dx dy
    exact ⟨_, o, _, _, rfl, rfl, here Rl h (den_bl.mpr rfl)⟩
  · exact h.elim
abbrev ltD : Op2 := cmpD fun i j => decide (i < j)
abbrev leD : Op2 := cmpD fun i j => decide (i ≤ j)
abbrev gtD : Op2 := cmpD fun i j => decide (j < i)
abbrev geD : Op2 := cmpD fun i j => decide (j ≤ i)
theorem o_lt : Op2R X (compareOp .Lt) ltD := o_cmpD op_lt
theorem o_le : Op2R X (compareOp .LtE) leD := o_cmpD op_le
theorem o_gt : Op2R X (compareOp .Gt) gtD := o_cmpD op_gt
theorem o_ge : Op2R X (compareOp .GtE) geD := o_cmpD op_ge

/-! ### is None, is not None; is True -/
def isNon : D → Bool
  | .non => true
  | _ => false
theorem isNon_v {K : PySem.W.Frag} {ρ : Rho} {H : Hp} {d : D} {v : V} (h : Den K ρ H d v) : decide (v = .non) = isNon d := by
  cases d <;> first
    | (rw [den_non] at h; subst h; rfl)
    | (rw [den_bl] at h; subst h; rfl)
    | (rw [den_int] at h; subst h; rfl)
    | (rw [den_str] at h; subst h; rfl)
    | (rw [den_ty] at h; subst h; rfl)
    | (rw [den_adr] at h; subst h; rfl)
    | (obtain ⟨a, o, rfl, _⟩ := den_ref.mp h; rfl)
    | (obtain ⟨a, xs, rfl, _⟩ := den_tup.mp h; rfl)
    | (obtain ⟨a, xs, rfl, _⟩ := den_lst.mp h; rfl)
    | (obtain ⟨a, xs, rfl, _⟩ := den_dct.mp h; rfl)
    | (obtain ⟨a, _, rfl⟩ := den_fn.mp h; rfl)
    | (obtain ⟨a, cv, d, rfl, _⟩ := den_exo.mp h; rfl)
def isD (neg : Bool) : Op2 := fun x y M => match x, y with
  | x, .non => .ok (.bl (isNon x != neg)) M
  | .bl a, .bl b => .ok (.bl ((a == b) != neg)) M
  | _, _ => .err
theorem q_is {neg : Bool} : Quiet2 (isD neg) := by
  intro x y M c fs M' e
  unfold isD at e
  split at e <;> cases e
end
end Mi

end

section
/-! Mi, fifth part: is, in, chains, truth, and, or, not, one or the other, items. -/
namespace Mi
open PySem PySem.Spec PyProof.Rows L2
section
variable {X : Cx} {W : WX}

theorem o_is : Op2R X (compareOp .Is) (isD false) := by
  intro ρ M H x y v w Q Rl dx dy h
  unfold isD at h
  split at h
  · rw [den_non] at dy
    subst dy
    refine ⟨_, op_isN, rfl, ?_⟩
    rw [isNon_v dx]
    have h' := here Rl h (den_bl.mpr rfl)
    simpa using h'
  · rw [den_bl] at dx dy
    subst dx dy
    refine ⟨_, op_is_bl, _, _, rfl, rfl, ?_⟩
    have h' := here Rl h (den_bl.mpr rfl)
    simpa [Bool.beq_eq_decide_eq] using h'
  · exact h.elim
theorem o_isNot : Op2R X (compareOp .IsNot) (isD true) := by
  intro ρ M H x y v w Q Rl dx dy h
  unfold isD at h
  split at h
  · rw [den_non] at dy
    subst dy
    refine ⟨_, op_notN, rfl, ?_⟩
    rw [isNon_v dx]
    have h' := here Rl h (den_bl.mpr rfl)
    simpa using h'
  · rw [den_bl] at dx dy
    subst dx dy
    refine ⟨_, op_isnot_bl, _, _, rfl, rfl, ?_⟩
    have h' := here Rl h (den_bl.mpr rfl)
    simpa [Bool.beq_eq_decide_eq] using h'
  · exact h.elim

/-! ### in, not in -/
def scal : D → Bool
  | .non => true
  | .bl _ => true
  | .int _ => true
  | .str _ => true
  | _ => false
/-- a plain one's own value -/
def sv : D → V
  | .bl b => .bl b
  | .int i => .int i
  | .str x => .str x
  | _ => .non
theorem scal_v {K : PySem.W.Frag} {ρ : Rho} {H : Hp} {d : D} {v : V} (s : scal d = true) (h : Den K ρ H d v) : v = sv d := by
  cases d <;> first
    | (rw [den_non] at h; exact h)
    | (rw [den_bl] at h; exact h)
    | (rw [den_int] at h; exact h)
    | (rw [den_str] at h; exact h)
    | (cases s)
theorem scal_flat {K : PySem.W.Frag} {ρ : Rho} {H : Hp} {d : D} {v : V} (s : scal d = true) (h : Den K ρ H d v) : flatV v = true := by
  rw [scal_v s h]
  cases d <;> rfl
theorem scal_eq {K : PySem.W.Frag} {ρ : Rho} {H : Hp} {d e : D} {v w : V} (s : scal d = true) (t : scal e = true) (h : Den K ρ H d v) (g : Den K ρ H e w) : eqV v w = deq d e := by
  rw [scal_v s h, scal_v t g]
  cases d <;> cases e <;> first
    | (cases s; done)
    | (cases t; done)
    | simp [sv, eqV, deq, py, PyData.eqv]
def keyOf : D → Option Key
  | .int i => some (.inl i)
  | .str x => some (.inr x)
  | _ => none
theorem keyOf_v {K : PySem.W.Frag} {ρ : Rho} {H : Hp} {d : D} {k : Key} {v : V} (e : keyOf d = some k) (h : Den K ρ H d v) : v = kV k := by
  cases d <;> first
    | (cases e; rw [den_int] at h; exact h)
    | (cases e; rw [den_str] at h; exact h)
    | (cases e)
def inLs (x : D) (ds : List D) : Bool := ds.any fun z => deq z x
def inD (neg : Bool) : Op2 := fun x y M => match y with
  | .lst ds => if flat x 64 && flat (.lst ds) 64 then .ok (.bl (inLs x ds != neg)) M else .err
  | .tup ds => if scal x && ds.all scal then .ok (.bl (inLs x ds != neg)) M else .err
  | .str z => match x with
    | .str t => match t.cps.toList with
      | [c] => .ok (.bl (decide (c ∈ z.cps.toList) != neg)) M
      | _ => .err
    | _ => .err
  | .dct ks _ => match keyOf x with
    | some k => .ok (.bl (ks.any (fun q => decide (q = k)) != neg)) M
    | none => .err
  | .ref l => match M[l]? with
    | some (.lst ds) => if flat x 64 && flat (.lst ds) 64 then .ok (.bl (inLs x ds != neg)) M else .err
    | some (.dct kvs) => match keyOf x with
      | some k => .ok (.bl (kvs.any (fun q => decide (q.1 = k)) != neg)) M
      | none => .err
    | _ => .err
  | _ => .err
theorem q_in {neg : Bool} : Quiet2 (inD neg) := by
  intro x y M c fs M' e
  unfold inD at e
  (repeat' split at e) <;> cases e
def rInDc (neg : Bool) : R2 := fun x y H Q => ∃ a o, y = .ref a ∧ DGet H a x o ∧ Q (.bl (if neg then !o.isSome else o.isSome)) H
theorem op_inDc (hu : X.A.units + 1 < cLine) : OpR X (compareOp .In) (rInDc false) := by
  intro pins s σ H x y v u Q I rx ry h
  obtain ⟨a, o, rfl, g, q⟩ := h
  cases ry
  exact d_in hu I g rx fun s' I' => ⟨.bl o.isSome, H, I', rfl, q⟩
theorem op_notInDc (hu : X.A.units + 1 < cLine) : OpR X (compareOp .NotIn) (rInDc true) := by
  intro pins s σ H x y v u Q I rx ry h
  obtain ⟨a, o, rfl, g, q⟩ := h
  cases ry
  exact d_notIn hu I g rx fun s' I' => ⟨.bl (!o.isSome), H, I', rfl, q⟩
theorem pys_any (ds : List D) (x : D) : ((pys ds).any fun z => PyData.eqv z (py x)) = inLs x ds := by
  induction ds with
  | nil => rfl
  | cons d ds ih =>
    show (((py d) :: pys ds).any fun z => PyData.eqv z (py x)) = _
    rw [List.any_cons, ih]
    rfl
theorem vals_any {K : PySem.W.Frag} {ρ : Rho} {H : Hp} {x : D} {v : V} (sx : scal x = true) (dx : Den K ρ H x v) : ∀ {ds : List D} {xs : List V}, ds.all scal = true → Dens K ρ H ds xs → (xs.any fun y => eqV y v) = inLs x ds ∧ xs.all flatV = true
  | [], xs, _, h => by rw [dens_nil] at h; subst h; exact ⟨rfl, rfl⟩
  | d :: ds, xs, a, h => by
    obtain ⟨w, r, rfl, h1, h2⟩ := dens_cons.mp h
    rw [List.all_cons, Bool.and_eq_true] at a
    obtain ⟨i1, i2⟩ := vals_any sx dx a.2 h2
    refine ⟨?_, ?_⟩
    · rw [List.any_cons, i1, scal_eq a.1 sx h1 dx]
      rfl
    · rw [List.all_cons, scal_flat a.1 h1, i2]
      rfl
theorem valV_some {κ : Type} [DecidableEq κ] (kvs : List (κ × V)) (k : κ) : (valV kvs k).isSome = (kvs.map (·.1)).any fun q => decide (q = k) := by
  rw [← valV_any, List.any_map]
  rfl
theorem str_one {t : Str} {c : Nat} (e : t.cps.toList = [c]) : t = ⟨#[c]⟩ := by
  cases t with
  | mk a =>
    have : a = #[c] := by
      cases a
      simpa using e
    rw [this]
theorem o_inX (c : Cf X) (neg : Bool) (f : Value → Value → Sem Value) (hL : OpR X f (fun x y H Q => ∃ d ds, Dp X.K H x d ∧ Dp X.K H y (.list ds) ∧ SeqAt.shaped d = true ∧ SeqAt.shaped (.list ds) = true ∧ Q (.bl ((ds.any fun z => PyData.eqv z d) != neg)) H))
    (hT : OpR X f (rIn X.K neg)) (hS : OpR X f (fun x y H Q => ∃ (c : Nat) (z : Str), x = .str ⟨#[c]⟩ ∧ y = .str z ∧ Q (.bl (decide (c ∈ z.cps.toList) != neg)) H)) (hD : OpR X f (rInDc neg)) : Op2R X f (inD neg) := by
  intro ρ M H x y v w Q Rl dx dy h
  have lists : ∀ {ds : List D} {a : Addr} {xs : List V}, SqL X.K H a xs → Dens X.K ρ H ds xs → flat x 64 = true → flat (.lst ds) 64 = true → Q (.bl (inLs x ds != neg)) H → ∃ r : R2, OpR X f r ∧ r v (.ref a) H Q := by
    intro ds a xs hs hd f1 f2 q
    refine ⟨_, hL, py x, pys ds, flat_dp x 64 v f1 dx, ?_, flat_shaped f1, ?_, ?_⟩
    · have z := f2
      simp only [flat, Bool.and_eq_true, decide_eq_true_eq] at z
      exact .lst hs (flats_dp ds 63 xs z.2 hd)
    · have z := flat_shaped f2
      unfold py at z
      exact z
    · rw [pys_any]
      exact q
  have dicts : ∀ {ks : List (Key × V)} {a : Addr} {k : Key}, Rd H a (.dK ks) → keyOf x = some k → Q (.bl ((ks.map (·.1)).any (fun q => decide (q = k)) != neg)) H → ∃ r : R2, OpR X f r ∧ r v (.ref a) H Q := by
    intro ks a k hH hk q
    have e := keyOf_v hk dx
    subst e
    refine ⟨_, hD, a, valV ks k, rfl, .inl ⟨ks, k, hH, rfl, rfl⟩, ?_⟩
    rw [valV_some]
    cases neg <;> simpa using q
  unfold inD at h
  split at h
  · obtain ⟨a, xs, rfl, hs, hd⟩ := den_lst.mp dy
    split at h
    · rename_i z
      rw [Bool.and_eq_true] at z
      exact lists hs.sq hd z.1 z.2 (here Rl h (den_bl.mpr rfl))
    · exact h.elim
  · obtain ⟨a, xs, rfl, hs, hd⟩ := den_tup.mp dy
    split at h
    · rename_i z
      rw [Bool.and_eq_true] at z
      obtain ⟨e1, e2⟩ := vals_any z.1 dx z.2 hd
      refine ⟨_, hT, a, xs, rfl, .inr hs, scal_flat z.1 dx, e2, ?_⟩
      have q := here Rl h (den_bl.mpr rfl)
      unfold inV
      rw [e1]
      cases neg <;> simpa using q
    · exact h.elim
  · rename_i z
    rw [den_str] at dy
    subst dy
    split at h
    · rename_i t
      rw [den_str] at dx
      subst dx
      split at h
      · rename_i ch e
        rw [str_one e]
        exact ⟨_, hS, ch, z, rfl, rfl, here Rl h (den_bl.mpr rfl)⟩
      · exact h.elim
    · exact h.elim
  · obtain ⟨a, kvs, rfl, hH, _, e, _⟩ := den_dct.mp dy; have hH := hH.rd
    split at h
    · rename_i k hk
      refine dicts hH hk ?_
      rw [e]
      exact here Rl h (den_bl.mpr rfl)
    · exact h.elim
  · rename_i l
    obtain ⟨a, o, rfl, hl, ho⟩ := den_ref.mp dy
    split at h
    · rename_i ds hm
      obtain ⟨b, xs, h1, h2, h3⟩ := Rl.obj l _ hm
      rw [hl] at h1
      cases h1
      have e := ho b rfl
      subst e
      split at h
      · rename_i z
        rw [Bool.and_eq_true] at z
        exact lists (SqL.of h2) h3 z.1 z.2 (here Rl h (den_bl.mpr rfl))
      · exact h.elim
    · rename_i kvs hm
      obtain ⟨b, ks, h1, h2, h3⟩ := Rl.obj l _ hm
      rw [hl] at h1
      cases h1
      have e := ho b rfl
      subst e
      split at h
      · rename_i k hk
        refine dicts (.inl h2) hk ?_
        have q := here Rl h (den_bl.mpr rfl)
        have ek : ∀ {ps : List (Key × D)} {qs : List (Key × V)}, DenP X.K ρ H ps qs → (qs.map (·.1)).any (fun q => decide (q = k)) = ps.any (fun q => decide (q.1 = k)) := by
          intro ps qs hp
          induction hp with
          | nil => rfl
          | cons r _ ih =>
            rw [List.map_cons, List.any_cons, List.any_cons, ih, r.1]
        rw [ek h3]
        exact q
      · exact h.elim
    · exact h.elim
  · exact h.elim
theorem b_xf (b : Bool) : (b != false) = b := by cases b <;> rfl
theorem b_xt (b : Bool) : (b != true) = !b := by cases b <;> rfl
theorem o_in (c : Cf X) : Op2R X (compareOp .In) (inD false) := by
  refine o_inX c false _ ?_ op_in_seq ?_ (op_inDc (by have := c.hu; omega))
  · intro pins s σ H x y v u Q I rx ry ⟨d, ds, h1, h2, h3, h4, q⟩
    exact op_inD (by have := c.hu; omega) pins s σ H x y v u Q I rx ry ⟨d, ds, h1, h2, h3, h4, by rw [b_xf] at q; exact q⟩
  · intro pins s σ H x y v u Q I rx ry ⟨ch, z, h1, h2, q⟩
    exact op_in_sign pins s σ H x y v u Q I rx ry ⟨ch, z, h1, h2, by rw [b_xf] at q; exact q⟩
theorem o_notIn (c : Cf X) : Op2R X (compareOp .NotIn) (inD true) := by
  refine o_inX c true _ ?_ op_notIn_seq ?_ (op_notInDc (by have := c.hu; omega))
  · intro pins s σ H x y v u Q I rx ry ⟨d, ds, h1, h2, h3, h4, q⟩
    exact op_notInD (by have := c.hu; omega) pins s σ H x y v u Q I rx ry ⟨d, ds, h1, h2, h3, h4, by rw [b_xt] at q; exact q⟩
  · intro pins s σ H x y v u Q I rx ry ⟨ch, z, h1, h2, q⟩
    exact op_notIn_sign pins s σ H x y v u Q I rx ry ⟨ch, z, h1, h2, by rw [b_xt] at q; exact q⟩
end
end Mi

end

section
/-! Mi, sixth part: tests, and, or, not, one or the other, chains, items, slices. -/
namespace Mi
open PySem PySem.Spec PyProof.Rows L2

/-! ### truth -/
def truD (M : MH) : D → Option Bool
  | .non => some false
  | .bl b => some b
  | .int i => some (i != 0)
  | .str x => if x.length ≤ lim then some ((x.length : Int) != 0) else none
  | .tup ds => some (!ds.isEmpty)
  | .lst ds => some (!ds.isEmpty)
  | .ref l => match M[l]? with
    | some (.lst ds) => some (!ds.isEmpty)
    | some (.dct kvs) => some (!kvs.isEmpty)
    | _ => none
  | _ => none
theorem dens_empty {K : PySem.W.Frag} {ρ : Rho} {H : Hp} {ds : List D} {xs : List V} (h : Dens K ρ H ds xs) : xs.isEmpty = ds.isEmpty := by
  cases ds with
  | nil => rw [dens_nil] at h; subst h; rfl
  | cons d ds => obtain ⟨v, r, rfl, _⟩ := dens_cons.mp h; rfl
theorem tru_v {K : PySem.W.Frag} {ρ : Rho} {M : MH} {H : Hp} (Rl : Rel K ρ M H) {d : D} {v : V} {b : Bool} (h : Den K ρ H d v) (t : truD M d = some b) : TruV K v H b := by
  cases d with
  | non => rw [den_non] at h; subst h; cases t; rfl
  | bl b => rw [den_bl] at h; subst h; cases t; rfl
  | int i => rw [den_int] at h; subst h; cases t; rfl
  | str x =>
    rw [den_str] at h
    subst h
    simp only [truD] at t
    split at t
    · rename_i z
      cases t
      exact ⟨lim_le z, rfl⟩
    · cases t
  | ty n => cases t
  | adr a => cases t
  | fn n => cases t
  | exo c hd ks ds => cases t
  | ref l =>
    obtain ⟨a, o, rfl, hl, ho⟩ := den_ref.mp h
    simp only [truD] at t
    split at t
    · rename_i ds hm
      obtain ⟨b, xs, h1, h2, h3⟩ := Rl.obj l _ hm
      rw [hl] at h1
      cases h1
      have e := ho b rfl
      subst e
      cases t
      exact .inl ⟨xs, SqL.of h2, by rw [dens_empty h3]⟩
    · rename_i kvs hm
      obtain ⟨b, ks, h1, h2, h3⟩ := Rl.obj l _ hm
      rw [hl] at h1
      cases h1
      have e := ho b rfl
      subst e
      cases t
      refine .inr (.inr ⟨ks, h2, ?_⟩)
      cases h3 <;> rfl
    · cases t
  | tup ds =>
    obtain ⟨a, xs, rfl, hs, hd⟩ := den_tup.mp h
    cases t
    exact .inr (.inl ⟨xs, hs, by rw [dens_empty hd]⟩)
  | lst ds =>
    obtain ⟨a, xs, rfl, hs, hd⟩ := den_lst.mp h
    cases t
    exact .inl ⟨xs, hs.sq, by rw [dens_empty hd]⟩
  | dct ks ds => cases t

def mTru (m : ME) : MT := fun env M => (m env M).bind fun d M1 => match truD M1 d with
  | some b => .ok b M1
  | none => .err
def mB (m : ME) : MT := fun env M => (m env M).bind fun d M1 => match d with
  | .bl b => .ok b M1
  | _ => .err
section
variable {X : Cx} {W : WX}
def SW (X : Cx) (W : WX) (e : Expr) (m : MT) : Prop := PW X e (tm X.K DnB W m)
theorem hereB {K : PySem.W.Frag} {ρ : Rho} {M : MH} {H : Hp} {W : Value → Option Addr → Hp → Prop} {Q : Bool → Hp → Prop} {b : Bool} (Rl : Rel K ρ M H) (h : Ok K ρ H DnB W Q (.ok b M)) : Q b H :=
  h ρ H b (Stp.refl (K := K) (M := M)) Rl rfl
/-- any expression but a comparison, and, or, not: by its value's truth -/
theorem t_tru {e : Expr} {m : ME} (h : SE X W e m) (he : ∀ whole, isTrue e X.env whole = (do let v ← whole; standAt e.pos; holding [v] (truthy v)) := by intro _; rfl) : ST X W e (mTru m) := by
  refine pt_imp (pt_truth h he) fun σ H Q q => ?_
  refine tm_bind (f := fun d _ M1 => match truD M1 d with | some b => .ok b M1 | none => .err) q fun d M1 ρ1 H1 v env R1 E1 dv q => ?_
  split at q
  · rename_i b e
    exact ⟨b, tru_v R1 dv e, hereB R1 q⟩
  · exact q.elim
theorem s_pc {op : CmpOp} {g : Op2} {a b : Expr} {ma mb : ME} (o : Op2R X (compareOp op) g) (q : Quiet2 g) (ha : SE X W a ma) (hb : SE X W b mb) : PC X op a b (tm X.K (DnD X.K) W (m2 g ma mb)) := by
  refine ⟨fun pins s σ H Q I h => ?_⟩
  refine binT ha hb (R := fun v w H2 => ∃ r : R2, OpR X (compareOp op) r ∧ r v w H2 Q) I ?_ fun v u s2 x y H2 I2 rx ry ⟨r, hr, hq⟩ => hr pins s2 σ H2 x y v u Q I2 rx ry hq
  refine tm_bind (f := fun x env M1 => (mb env M1).bind fun y M2 => g x y M2) h fun x M1 ρ1 H1 v env R1 E1 dx h => ?_
  exact ⟨ρ1, M1, env, R1, E1, h.bind fun y M2 ρ2 H2 w _ S R2 dy h => o ρ2 M2 H2 x y v w Q R2 (Den.step R1 S _ _ dx) dy (ok_quiet (q x y M2) h)⟩
theorem mB_t {m : ME} {σ : L2.St} {H : Hp} {Q : Bool → Hp → Prop} (q : tm X.K DnB W (mB m) σ H Q) : tm X.K (DnD X.K) W m σ H (fun x H1 => ∃ c, x = V.bl c ∧ Q c H1) := by
  refine tm_bind (f := fun d _ M1 => match d with | .bl b => .ok b M1 | _ => .err) q fun d M1 ρ1 H1 v env R1 E1 dv q => ?_
  split at q
  · rw [show v = _ from den_bl.mp dv]
    exact ⟨_, rfl, hereB R1 q⟩
  · exact q.elim
theorem t_cmp {op : CmpOp} {g : Op2} {a b : Expr} {pos : Pos} {ma mb : ME} (o : Op2R X (compareOp op) g) (q : Quiet2 g) (ha : SE X W a ma) (hb : SE X W b mb) (hm : behindInMarks op b = false) : ST X W (.Compare a [op] [b] pos) (mB (m2 g ma mb)) :=
  pt_imp (pt_cmp (s_pc o q ha hb) hm) fun _ _ _ h => mB_t h
def mNotT (m : MT) : MT := fun env M => (m env M).bind fun b M1 => .ok (!b) M1
theorem t_not {a : Expr} {pos : Pos} {m : MT} (h : ST X W a m) : ST X W (.UnaryOp .Not a pos) (mNotT m) := by
  refine pt_imp (pt_not h) fun σ H Q q => ?_
  refine tm_bind (f := fun b _ M1 => .ok (!b) M1) q fun b M1 ρ1 H1 v env R1 E1 dv q => ?_
  cases (show b = v from dv)
  exact hereB R1 q
def mAndT (a b : MT) : MT := fun env M => (a env M).bind fun c M1 => if c = true then b env M1 else .ok false M1
def mOrT (a b : MT) : MT := fun env M => (a env M).bind fun c M1 => if c = true then .ok true M1 else b env M1
theorem w_and1 {a : Expr} {pos : Pos} {m : MT} (h : ST X W a m) : SW X W (.BoolOp .And [a] pos) m := pw_and1 h
theorem w_or1 {a : Expr} {pos : Pos} {m : MT} (h : ST X W a m) : SW X W (.BoolOp .Or [a] pos) m := pw_or1 h
theorem pw_imp {e : Expr} {t t' : TT} (h : PW X e t) (i : ∀ σ H Q, t' σ H Q → t σ H Q) : PW X e t' := ⟨fun wh pins s σ H Q I q => h.run wh pins s σ H Q I (i σ H Q q)⟩
theorem w_and {a b : Expr} {rest : List Expr} {pos : Pos} {ma mb : MT} (ha : ST X W a ma) (hb : SW X W (.BoolOp .And (b :: rest) pos) mb) : SW X W (.BoolOp .And (a :: b :: rest) pos) (mAndT ma mb) := by
  refine pw_imp (pw_and ha hb) fun σ H Q q => ?_
  refine tm_bind (f := fun c env M1 => if c = true then mb env M1 else .ok false M1) q fun c M1 ρ1 H1 v env R1 E1 dv q => ?_
  cases (show c = v from dv)
  cases c with
  | true => exact ⟨ρ1, M1, env, R1, E1, q⟩
  | false => exact hereB R1 q
theorem w_or {a b : Expr} {rest : List Expr} {pos : Pos} {ma mb : MT} (ha : ST X W a ma) (hb : SW X W (.BoolOp .Or (b :: rest) pos) mb) : SW X W (.BoolOp .Or (a :: b :: rest) pos) (mOrT ma mb) := by
  refine pw_imp (pw_or ha hb) fun σ H Q q => ?_
  refine tm_bind (f := fun c env M1 => if c = true then .ok true M1 else mb env M1) q fun c M1 ρ1 H1 v env R1 E1 dv q => ?_
  cases (show c = v from dv)
  cases c with
  | true => exact hereB R1 q
  | false => exact ⟨ρ1, M1, env, R1, E1, q⟩
theorem t_w {e : Expr} {m : MT} (h : SW X W e m) : ST X W e m := PW.pt h

/-! ### the same as values -/
def mAnd (a b : ME) : ME := fun env M => (a env M).bind fun x M1 => match truD M1 x with
  | some true => b env M1
  | some false => .ok x M1
  | none => .err
def mOr (a b : ME) : ME := fun env M => (a env M).bind fun x M1 => match truD M1 x with
  | some true => .ok x M1
  | some false => b env M1
  | none => .err
theorem s_one {op : BoolOp} {a : Expr} {pos : Pos} {m : ME} (h : SE X W a m) : SE X W (.BoolOp op [a] pos) m := pe_one h
theorem s_and {a b : Expr} {rest : List Expr} {pos : Pos} {ma mb : ME} (ha : SE X W a ma) (hb : SE X W (.BoolOp .And (b :: rest) pos) mb) : SE X W (.BoolOp .And (a :: b :: rest) pos) (mAnd ma mb) := by
  refine pe_imp (pe_andT ha hb) fun σ H Q q => ?_
  refine tm_bind (f := fun x env M1 => match truD M1 x with | some true => mb env M1 | some false => .ok x M1 | none => .err) q fun x M1 ρ1 H1 v env R1 E1 dv q => ?_
  split at q
  · rename_i e
    exact ⟨true, tru_v R1 dv e, ⟨ρ1, M1, env, R1, E1, q⟩⟩
  · rename_i e
    exact ⟨false, tru_v R1 dv e, here R1 q dv⟩
  · exact q.elim
theorem s_or {a b : Expr} {rest : List Expr} {pos : Pos} {ma mb : ME} (ha : SE X W a ma) (hb : SE X W (.BoolOp .Or (b :: rest) pos) mb) : SE X W (.BoolOp .Or (a :: b :: rest) pos) (mOr ma mb) := by
  refine pe_imp (pe_orT ha hb) fun σ H Q q => ?_
  refine tm_bind (f := fun x env M1 => match truD M1 x with | some true => .ok x M1 | some false => mb env M1 | none => .err) q fun x M1 ρ1 H1 v env R1 E1 dv q => ?_
  split at q
  · rename_i e
    exact ⟨true, tru_v R1 dv e, here R1 q dv⟩
  · rename_i e
    exact ⟨false, tru_v R1 dv e, ⟨ρ1, M1, env, R1, E1, q⟩⟩
  · exact q.elim
def notD : Op1 := fun x M => match truD M x with
  | some b => .ok (.bl (!b)) M
  | none => .err
theorem s_not {a : Expr} {pos : Pos} {m : ME} (h : SE X W a m) : SE X W (.UnaryOp .Not a pos) (m1 notD m) := by
  refine pe_imp (pe_notT h) fun σ H Q q => ?_
  refine tm_bind (f := fun x _ M1 => notD x M1) q fun x M1 ρ1 H1 v env R1 E1 dv q => ?_
  unfold notD at q
  split at q
  · rename_i b e
    exact ⟨b, tru_v R1 dv e, here R1 q (den_bl.mpr rfl)⟩
  · exact q.elim
def mIf (c : MT) (a b : ME) : ME := fun env M => (c env M).bind fun k M1 => if k = true then a env M1 else b env M1
theorem s_if {c a b : Expr} {pos : Pos} {mc : MT} {ma mb : ME} (hc : ST X W c mc) (ha : SE X W a ma) (hb : SE X W b mb) : SE X W (.IfExp c a b pos) (mIf mc ma mb) := by
  refine pe_imp (pe_ifExp hc ha hb) fun σ H Q q => ?_
  refine tm_bind (f := fun k env M1 => if k = true then ma env M1 else mb env M1) q fun k M1 ρ1 H1 v env R1 E1 dv q => ?_
  cases (show k = v from dv)
  cases k with
  | true => exact ⟨ρ1, M1, env, R1, E1, q⟩
  | false => exact ⟨ρ1, M1, env, R1, E1, q⟩
/-! ### a <= b <= c, of whole numbers -/
def chainD (g g' : Int → Int → Bool) (c : ME) (env : En) (x y : D) (M : MH) : R D := match x, y with
  | .int i, .int j => if g i j = true then (c env M).bind fun z M3 => match z with
      | .int k => .ok (.bl (g' j k)) M3
      | _ => .err
    else .ok (.bl false) M
  | _, _ => .err
def mChain (g g' : Int → Int → Bool) (a b c : ME) : ME := fun env M => (a env M).bind fun x M1 => (b env M1).bind fun y M2 => chainD g g' c env x y M2
theorem chain_o {g g' : Int → Int → Bool} {c : Expr} {mc : ME} {σ : L2.St} {Q : VK} {ρ : Rho} {M : MH} {H : Hp} {env : En} {x y : D} {v w : V} (Rl : Rel X.K ρ M H) (E : EnR X.K ρ H env σ) (dx : Den X.K ρ H x v) (dy : Den X.K ρ H y w)
    (h : Ok X.K ρ H (DnD X.K) (fun c d H' => W c d σ H') Q (chainD g g' mc env x y M)) : rI0 (fun i j => .bl (g i j)) v w H fun z H3 => ∃ k, z = .bl k ∧ (if k = true then tm X.K (DnD X.K) W mc σ H3 fun w' H4 => rI0 (fun i j => .bl (g' i j)) w w' H4 Q else Q (.bl false) H3) := by
  unfold chainD at h
  split at h
  · rename_i i j
    rw [den_int] at dx dy
    subst dx dy
    refine ⟨i, j, rfl, rfl, g i j, rfl, ?_⟩
    split at h
    · rename_i z
      rw [z, if_pos rfl]
      refine ⟨ρ, M, env, Rl, E, h.bind fun z M3 ρ3 H3 u _ S3 R3 dz h => ?_⟩
      cases z <;> first
        | exact h.elim
        | (rw [show u = _ from den_int.mp dz]; exact ⟨_, _, rfl, rfl, here R3 h (den_bl.mpr rfl)⟩)
    · rename_i z
      rw [show g i j = false by simpa using z, if_neg (by decide)]
      exact here Rl h (den_bl.mpr rfl)
  · exact h.elim
theorem chain_t {g g' : Int → Int → Bool} {ma mb mc : ME} {σ : L2.St} {H : Hp} {Q : VK} (h : tm X.K (DnD X.K) W (mChain g g' ma mb mc) σ H Q) :
    tChain (rI0 fun i j => .bl (g i j)) (rI0 fun i j => .bl (g' i j)) (tm X.K (DnD X.K) W ma) (tm X.K (DnD X.K) W mb) (tm X.K (DnD X.K) W mc) σ H Q := by
  refine tm_bind (f := fun x env M1 => (mb env M1).bind fun y M2 => chainD g g' mc env x y M2) h fun x M1 ρ1 H1 v env R1 E1 dx h => ?_
  exact ⟨ρ1, M1, env, R1, E1, h.bind fun y M2 ρ2 H2 w _ S R2 dy h => chain_o (c := .Constant .none 0 ⟨0, 0, 0, 0⟩) R2 (E1.step R1 S) (Den.step R1 S _ _ dx) dy h⟩
theorem s_chain {op op' : CmpOp} {g g' : Int → Int → Bool} {a b c : Expr} {pos : Pos} {ma mb mc : ME} (o : OpR X (compareOp op) (rI0 fun i j => .bl (g i j))) (o' : OpR X (compareOp op') (rI0 fun i j => .bl (g' i j))) (ha : SE X W a ma) (hb : SE X W b mb) (hc : SE X W c mc)
    (hm : lastMarks [op, op'] [b, c] = false := by with_unfolding_all rfl) : SE X W (.Compare a [op, op'] [b, c] pos) (mChain g g' ma mb mc) :=
  pe_imp (pe_chain o o' ha hb hc hm) fun _ _ _ h => chain_t h
theorem t_chain {op op' : CmpOp} {g g' : Int → Int → Bool} {a b c : Expr} {pos : Pos} {ma mb mc : ME} (o : OpR X (compareOp op) (rI0 fun i j => .bl (g i j))) (o' : OpR X (compareOp op') (rI0 fun i j => .bl (g' i j))) (ha : SE X W a ma) (hb : SE X W b mb) (hc : SE X W c mc)
    (hm : lastMarks [op, op'] [b, c] = false := by with_unfolding_all rfl) : ST X W (.Compare a [op, op'] [b, c] pos) (mB (mChain g g' ma mb mc)) := by
  refine pt_imp (pt_chain o o' ha hb hc hm) fun σ H Q h => ?_
  exact chain_t (Q := fun x H1 => ∃ c, x = V.bl c ∧ Q c H1) (mB_t h)

/-! ### items -/
def dctGet (ks : List Key) (ds : List D) (k : Key) : Option D := ((ks.zip ds).find? fun p => decide (p.1 = k)).map (·.2)
def ixD : Op2 := fun x y M => match x with
  | .tup ds => match y with
    | .int i => match atI ds i with
      | some d => .ok d M
      | none => .err
    | _ => .err
  | .lst ds => match y with
    | .int i => match atI ds i with
      | some d => .ok d M
      | none => .err
    | _ => .err
  | .str z => match y with
    | .int i => match atI z.cps.toList i with
      | some c => if z.length ≤ lim then .ok (.str ⟨#[c]⟩) M else .err
      | none => .err
    | _ => .err
  | .dct ks ds => match keyOf y with
    | some k => match dctGet ks ds k with
      | some d => .ok d M
      | none => .err
    | none => .err
  | .ref l => match M[l]? with
    | some (.lst ds) => match y with
      | .int i => match atI ds i with
        | some d => .ok d M
        | none => .err
      | _ => .err
    | some (.dct kvs) => match keyOf y with
      | some k => match (kvs.find? fun p => decide (p.1 = k)).map (·.2) with
        | some d => .ok d M
        | none => .err
      | none => .err
    | _ => .err
  | _ => .err
theorem q_ix : Quiet2 ixD := by
  intro x y M c fs M' e
  unfold ixD at e
  (repeat' split at e) <;> cases e
theorem atI_den {K : PySem.W.Frag} {ρ : Rho} {H : Hp} {ds : List D} {xs : List V} {i : Int} {d : D} (h : Dens K ρ H ds xs) (e : atI ds i = some d) : ∃ v, atI xs i = some v ∧ Den K ρ H d v := by
  unfold atI at e ⊢
  rw [← h.length]
  cases q : ixN ds.length i with
  | none => rw [q] at e; cases e
  | some j =>
    rw [q] at e
    exact h.get e
theorem denP_get {κ : Type} [DecidableEq κ] {K : PySem.W.Frag} {ρ : Rho} {H : Hp} {ps : List (κ × D)} {qs : List (κ × V)} (h : DenP K ρ H ps qs) {k : κ} {d : D} (e : (ps.find? fun p => decide (p.1 = k)).map (·.2) = some d) : ∃ v, valV qs k = some v ∧ Den K ρ H d v := by
  induction h with
  | nil => cases e
  | @cons p q ps qs r _ ih =>
    unfold valV
    rw [List.find?_cons] at e ⊢
    rw [← r.1]
    by_cases z : p.1 = k
    · rw [decide_eq_true z] at e ⊢
      cases e
      exact ⟨_, rfl, r.2⟩
    · rw [decide_eq_false z] at e ⊢
      exact ih e
theorem denP_zip {K : PySem.W.Frag} {ρ : Rho} {H : Hp} : ∀ {ds : List D} {kvs : List (Key × V)}, Dens K ρ H ds (kvs.map (·.2)) → DenP K ρ H ((kvs.map (·.1)).zip ds) kvs
  | [], kvs, h => by
    rw [dens_nil] at h
    have e : kvs = [] := by simpa using h
    subst e
    exact .nil
  | d :: ds, kvs, h => by
    obtain ⟨v, r, e, h1, h2⟩ := dens_cons.mp h
    cases kvs with
    | nil => cases e
    | cons p kvs =>
      simp only [List.map_cons, List.cons.injEq] at e
      obtain ⟨e1, e2⟩ := e
      subst e1 e2
      exact .cons ⟨rfl, h1⟩ (denP_zip h2)
/-- an item's rule, by values -/
def IxD (X : Cx) (a b : Expr) (v w : V) (H : Hp) (Q : VK) : Prop := ∀ (pins : List (Addr × Obj)) (s : Shared) (σ : L2.St) (u z : Value), Inv X pins σ H s → RelV v u → RelV w z → (∀ o i, subscripted b false o i = operate [o, i] (getItem o i)) → wpAny (model X.prog X.w) X.A (subscriptTail a b u z) (EP X pins σ Q) X.xe s
theorem ixd_of {a b : Expr} {r : R2} {v w : V} {H : Hp} {Q : VK} (hr : IxR X r) (h : r v w H Q) : IxD X a b v w H Q := fun pins s σ u z I rv rw hs => hr a b pins s σ H v w u z Q I rv rw h (hs _ _)
theorem ixd_dict {a b : Expr} {p : Addr} {w : V} {x : V} {H : Hp} {Q : VK} (hu : X.A.units + 1 < cLine) (g : DGet H p w (some x)) (q : Q x H) : IxD X a b (.ref p) w H Q := fun pins s σ u z I rv rw hs => by
  obtain rfl : u = Value.ref p := rv
  exact tail_any (dict_typeIs I g) PySem.F.slot_dict_getitem.lookup (d_getItem hu I g rw fun w' s3 I3 rw' => ⟨x, H, I3, rw', q⟩) (hs _ _)
theorem o_ix (c : Cf X) {a b : Expr} {ρ : Rho} {M : MH} {H : Hp} {x y : D} {v w : V} {Q : VK} (R2 : Rel X.K ρ M H) (dx : Den X.K ρ H x v) (dy : Den X.K ρ H y w) (h : ROk X.K ρ H Q (ixD x y M)) : IxD X a b v w H Q := by
  have hu : X.A.units + 1 < cLine := by have := c.hu; omega
  unfold ixD at h
  split at h
  · obtain ⟨p, xs, rfl, hs, hd⟩ := den_tup.mp dx
    split at h
    · rename_i i
      rw [den_int] at dy
      subst dy
      split at h
      · rename_i d e
        obtain ⟨v, e2, dv⟩ := atI_den hd e
        exact ixd_of ix_tup ⟨p, xs, i, v, rfl, rfl, hs, e2, here R2 h dv⟩
      · exact h.elim
    · exact h.elim
  · obtain ⟨p, xs, rfl, hs, hd⟩ := den_lst.mp dx
    split at h
    · rename_i i
      rw [den_int] at dy
      subst dy
      split at h
      · rename_i d e
        obtain ⟨v, e2, dv⟩ := atI_den hd e
        exact ixd_of ix_list ⟨p, xs, i, v, rfl, rfl, hs.sq, e2, here R2 h dv⟩
      · exact h.elim
    · exact h.elim
  · rename_i z
    rw [den_str] at dx
    subst dx
    split at h
    · rename_i i
      rw [den_int] at dy
      subst dy
      split at h
      · rename_i ch e
        split at h
        · rename_i zl
          exact ixd_of ix_str ⟨z, i, ch, rfl, rfl, lim_le zl, e, here R2 h (den_str.mpr rfl)⟩
        · exact h.elim
      · exact h.elim
    · exact h.elim
  · rename_i ks ds
    obtain ⟨p, kvs, rfl, hH, _, e, hd⟩ := den_dct.mp dx; have hH := hH.rd
    split at h
    · rename_i k hk
      split at h
      · rename_i d hg
        unfold dctGet at hg
        rw [← e] at hg
        obtain ⟨v, e2, dv⟩ := denP_get (denP_zip hd) hg
        rw [keyOf_v hk dy]
        exact ixd_dict hu (e2 ▸ .inl ⟨kvs, k, hH, rfl, rfl⟩) (here R2 h dv)
      · exact h.elim
    · exact h.elim
  · rename_i l
    obtain ⟨p, o, rfl, hl, ho⟩ := den_ref.mp dx
    split at h
    · rename_i ds hm
      obtain ⟨b, xs, h1, h2, h3⟩ := R2.obj l _ hm
      rw [hl] at h1
      cases h1
      have e := ho b rfl
      subst e
      split at h
      · rename_i i
        rw [den_int] at dy
        subst dy
        split at h
        · rename_i d e
          obtain ⟨v, e2, dv⟩ := atI_den h3 e
          exact ixd_of ix_list ⟨_, xs, i, v, rfl, rfl, SqL.of h2, e2, here R2 h dv⟩
        · exact h.elim
      · exact h.elim
    · rename_i kvs hm
      obtain ⟨b, ks, h1, h2, h3⟩ := R2.obj l _ hm
      rw [hl] at h1
      cases h1
      have e := ho b rfl
      subst e
      split at h
      · rename_i k hk
        split at h
        · rename_i d hg
          obtain ⟨v, e2, dv⟩ := denP_get h3 hg
          rw [keyOf_v hk dy]
          exact ixd_dict hu (e2 ▸ DGet.k h2) (here R2 h dv)
        · exact h.elim
      · exact h.elim
    · exact h.elim
  · exact h.elim
theorem s_ix (c : Cf X) {a b : Expr} {pos : Pos} {ma mb : ME} (ha : SE X W a ma) (hb : SE X W b mb) (hs : ∀ o i, subscripted b false o i = operate [o, i] (getItem o i) := by intro _ _; rfl) : SE X W (.Subscript a b pos) (m2 ixD ma mb) := by
  refine ⟨fun pins s σ H Q I h => ?_⟩
  refine Subscript_ (binT ha hb (R := fun v w H2 => IxD X a b v w H2 Q) I ?_ fun v u s2 x y H2 I2 rx ry hr => hr pins s2 σ v u I2 rx ry hs)
  refine tm_bind (f := fun x env M1 => (mb env M1).bind fun y M2 => ixD x y M2) h fun x M1 ρ1 H1 v env R1 E1 dx h => ?_
  exact ⟨ρ1, M1, env, R1, E1, h.bind fun y M2 ρ2 H2 w _ S R2 dy h => o_ix c R2 (Den.step R1 S _ _ dx) dy (ok_quiet (q_ix x y M2) h)⟩
end
end Mi

end

section
/-! Mi, seventh part: displays, cells made and written, what is walked, comprehensions. -/
namespace Mi
open PySem PySem.Spec PyProof.Rows L2
section
variable {K : PySem.W.Frag} {ρ : Rho} {M : MH} {H : Hp}

/-! ### cells -/
/-- a cell is written -/
theorem Stp.write {l : Nat} {a : Addr} {o : HO} (hl : ρ.c[l]? = some (some a)) : Stp ρ H ρ (upd H a o) :=
  ⟨fun _ _ h => .inl h, fun _ h => .inl h, fun b u h n => by
    have ne : b ≠ a := fun e => n (e ▸ mem_of_get hl)
    rw [upd_ne ne]
    exact h, rfl⟩
theorem Rel.write (Rl : Rel K ρ M H) {l : Nat} {a : Addr} {o : HO} {mo : MO} (hl : ρ.c[l]? = some (some a)) (new : ObjD K ρ (upd H a o) l mo) : Rel K ρ (M.set l mo) (upd H a o) where
  len := by rw [List.length_set]; exact Rl.len
  hid := fun b m => by
    obtain ⟨n, xs, e⟩ := Rl.hid b m
    exact ⟨n, xs, (Stp.write (ρ := ρ) (H := H) (o := o) hl).keep b _ e n⟩
  inj := Rl.inj
  obj := fun j u e => by
    by_cases q : l = j
    · subst q
      have hlen : l < M.length := by
        rw [← Rl.len]
        exact (List.getElem?_eq_some_iff.mp hl).1
      rw [List.getElem?_set_self hlen] at e
      cases e
      exact new
    · rw [List.getElem?_set_ne q] at e
      have S : Stp ρ H ρ (upd H a o) := Stp.write hl
      have x := Rl.obj j u e
      have ne : ∀ b, ρ.c[j]? = some (some b) → b ≠ a := fun b h1 e => by
        subst e
        exact q (Rl.inj l j b hl h1)
      cases u with
      | lst ds =>
        obtain ⟨b, xs, h1, h2, h3⟩ := x
        exact ⟨b, xs, h1, by rw [upd_ne (ne b h1)]; exact h2, Dens.step Rl S _ _ h3⟩
      | dct kvs =>
        obtain ⟨b, xs, h1, h2, h3⟩ := x
        exact ⟨b, xs, h1, by rw [upd_ne (ne b h1)]; exact h2, DenP.step Rl S h3⟩
      | ins C fs =>
        obtain ⟨b, Ca, dx, gs, h1, cn, h2, h3⟩ := x
        exact ⟨b, Ca, dx, gs, h1, cn, by rw [upd_ne (ne b h1)]; exact h2, DenP.step Rl S h3⟩
      | gone => exact x
/-- a new cell -/
theorem get_last {α : Type} {xs : List α} {a : α} : (xs ++ [a])[xs.length]? = some a := by
  rw [List.getElem?_append_right (Nat.le_refl _), Nat.sub_self]
  rfl
theorem get_front {α : Type} {xs : List α} {a b : α} {i : Nat} (h : xs[i]? = some b) : (xs ++ [a])[i]? = some b := by
  rw [List.getElem?_append_left (List.getElem?_eq_some_iff.mp h).1]
  exact h
/-- one cell more -/
def Rho.add (ρ : Rho) (p : Addr) : Rho := ⟨ρ.c ++ [some p], ρ.h⟩
theorem Stp.cell {p : Addr} {o : HO} (hp : H p = none) : Stp ρ H (ρ.add p) (upd H p o) :=
  ⟨fun _ _ h => .inl (get_front h), fun a h => by
    rcases List.mem_append.mp h with h | h
    · exact .inl h
    · have e : some a = some p := by simpa using h
      cases e
      exact .inr hp, fun a u h _ => by rw [upd_ne (ne_of_none h hp)]; exact h, rfl⟩
theorem Rel.cell (Rl : Rel K ρ M H) {p : Addr} {o : HO} {mo : MO} (hp : H p = none) (new : ObjD K (ρ.add p) (upd H p o) M.length mo) : Rel K (ρ.add p) (M ++ [mo]) (upd H p o) where
  len := by
    show (ρ.c ++ [some p]).length = _
    rw [List.length_append, List.length_append, Rl.len]; rfl
  hid := fun a m => by
    obtain ⟨n, xs, e⟩ := Rl.hid a m
    have ne := ne_of_none e hp
    refine ⟨fun z => ?_, xs, by rw [upd_ne ne]; exact e⟩
    rcases List.mem_append.mp z with z | z
    · exact n z
    · exact ne (Option.some.inj (List.mem_singleton.mp z))
  inj := fun i j a h1 h2 => by
    have h1 : (ρ.c ++ [some p])[i]? = some (some a) := h1
    have h2 : (ρ.c ++ [some p])[j]? = some (some a) := h2
    have hf := Rl.fresh hp
    have side : ∀ k : Nat, (ρ.c ++ [some p])[k]? = some (some a) → ρ.c[k]? = some (some a) ∨ (k = ρ.c.length ∧ a = p) := fun k h => by
      by_cases hk : k < ρ.c.length
      · rw [List.getElem?_append_left hk] at h
        exact .inl h
      · have hk2 := (List.getElem?_eq_some_iff.mp h).1
        rw [List.length_append] at hk2
        have hk3 : k = ρ.c.length := by
          have : [some p].length = 1 := rfl
          omega
        subst hk3
        rw [get_last] at h
        cases h
        exact .inr ⟨rfl, rfl⟩
    rcases side i h1 with q | ⟨q, e⟩ <;> rcases side j h2 with r | ⟨r, f⟩
    · exact Rl.inj i j a q r
    · subst f; exact absurd (mem_of_get q) hf
    · subst e; exact absurd (mem_of_get r) hf
    · rw [q, r]
  obj := fun j u e => by
    have S : Stp ρ H (ρ.add p) (upd H p o) := Stp.cell hp
    by_cases hj : j < M.length
    · rw [List.getElem?_append_left hj] at e
      have x := Rl.obj j u e
      cases u with
      | lst ds =>
        obtain ⟨b, xs, h1, h2, h3⟩ := x
        exact ⟨b, xs, get_front h1, by rw [upd_ne (ne_of_none h2 hp)]; exact h2, Dens.step Rl S _ _ h3⟩
      | dct kvs =>
        obtain ⟨b, xs, h1, h2, h3⟩ := x
        exact ⟨b, xs, get_front h1, by rw [upd_ne (ne_of_none h2 hp)]; exact h2, DenP.step Rl S h3⟩
      | ins C fs =>
        obtain ⟨b, Ca, dx, gs, h1, cn, h2, h3⟩ := x
        exact ⟨b, Ca, dx, gs, get_front h1, cn, by rw [upd_ne (ne_of_none h2 hp)]; exact h2, DenP.step Rl S h3⟩
      | gone => exact get_front x
    · have hj2 := (List.getElem?_eq_some_iff.mp e).1
      rw [List.length_append] at hj2
      have hj3 : j = M.length := by
        have : [mo].length = 1 := rfl
        omega
      subst hj3
      rw [get_last] at e
      cases e
      exact new
theorem Rel.lastAt (Rl : Rel K ρ M H) {p : Addr} : (ρ.add p).c[M.length]? = some (some p) := by
  show (ρ.c ++ [some p])[M.length]? = _
  rw [← Rl.len]
  exact get_last
theorem newC {W : Value → Option Addr → Hp → Prop} {Q : VK} {ds : List D} {xs : List V} (Rl : Rel K ρ M H) (h : Ok K ρ H (DnD K) W Q (.ok (.ref M.length) (M ++ [.lst ds]))) (e : Dens K ρ H ds xs) : ∀ p, H p = none → Q (.ref p) (upd H p (.lst xs)) := fun p hp => by
  have S : Stp ρ H (ρ.add p) (upd H p (.lst xs)) := Stp.cell hp
  exact h _ _ _ S (Rl.cell hp ⟨p, xs, Rl.lastAt, upd_same, Dens.step Rl S _ _ e⟩) (den_ref.mpr ⟨p, some p, rfl, Rl.lastAt, fun b e => Option.some.inj e.symm⟩)
end

section
variable {X : Cx} {W : WX}
/-! ### displays -/
def tupD : OpN := fun ds M => if ds.length ≤ lim then .ok (.tup ds) M else .err
def lstD : OpN := fun ds M => if ds.length ≤ lim then .ok (.lst ds) M else .err
/-- a list that may change -/
def celD : OpN := fun ds M => if ds.length ≤ lim then .ok (.ref M.length) (M ++ [.lst ds]) else .err
theorem s_tup {es : List Expr} {k : Nat} {pos : Pos} {ma : MA} (h : SA X W es ma) : SE X W (.Tuple es k pos) (mN tupD ma) := by
  refine pe_imp (pe_tup h) fun σ H Q q => ?_
  refine tm_bind (f := fun ds _ M1 => tupD ds M1) q fun ds M1 ρ1 H1 vs env R1 E1 dv q => ?_
  unfold tupD at q
  split at q
  · rename_i z
    exact ⟨by rw [← Dens.length dv]; exact lim_le z, newT R1 q dv⟩
  · exact q.elim
theorem s_lst {es : List Expr} {pos : Pos} {ma : MA} (h : SA X W es ma) : SE X W (.List es pos) (mN lstD ma) := by
  refine pe_imp (pe_lst h) fun σ H Q q => ?_
  refine tm_bind (f := fun ds _ M1 => lstD ds M1) q fun ds M1 ρ1 H1 vs env R1 E1 dv q => ?_
  unfold lstD at q
  split at q
  · rename_i z
    exact ⟨by rw [← Dens.length dv]; exact lim_le z, newL R1 q dv⟩
  · exact q.elim
theorem s_cel {es : List Expr} {pos : Pos} {ma : MA} (h : SA X W es ma) : SE X W (.List es pos) (mN celD ma) := by
  refine pe_imp (pe_lst h) fun σ H Q q => ?_
  refine tm_bind (f := fun ds _ M1 => celD ds M1) q fun ds M1 ρ1 H1 vs env R1 E1 dv q => ?_
  unfold celD at q
  split at q
  · rename_i z
    exact ⟨by rw [← Dens.length dv]; exact lim_le z, newC R1 q dv⟩
  · exact q.elim

/-! ### what is walked -/
/-- what is locked stays so -/
def Fk (H H' : Hp) : Prop := ∀ (a : Addr) (o : Obj) (u : HO), H a = some (.frz o u) → H' a = some (.frz o u)
theorem Stp.fk {K : PySem.W.Frag} {ρ ρ' : Rho} {M : MH} {H H' : Hp} (S : Stp ρ H ρ' H') (R : Rel K ρ M H) : Fk H H' := fun a o u h => S.keep a _ h (R.notFrz h)
/-- J gives the items, one a turn, whatever is done to cells meanwhile -/
structure Wk (K : PySem.W.Frag) (ρ1 : Rho) (H1 : Hp) (J : It) (items : List D) : Prop where
  goes : ∀ (i : Nat) ρ' M' H', i < items.length → Rel K ρ' M' H' → Tr ρ1 H1 ρ' H' → Fk H1 H' → J.go i H'
  stops : ∀ ρ' M' H', Rel K ρ' M' H' → Tr ρ1 H1 ρ' H' → Fk H1 H' → J.stop items.length H'
  yields : ∀ (i : Nat) ρ' M' H' x H'' (d : D), items[i]? = some d → Rel K ρ' M' H' → Tr ρ1 H1 ρ' H' → Fk H1 H' → J.yld i H' x H'' → Rel K ρ' M' H'' ∧ Stp ρ' H' ρ' H'' ∧ Den K ρ' H'' d x
abbrev DnI (K : PySem.W.Frag) : Rho → Hp → List D → It → Prop := fun ρ H ds J => Wk K ρ H J ds
def SI (X : Cx) (W : WX) (tg e : Expr) (m : MA) : Prop := PI X tg e (tm X.K (DnI X.K) W m)
def signs (x : Str) : List D := x.cps.toList.map fun c => .str ⟨#[c]⟩
def itemsD : D → MH → R (List D) := fun d M => match d with
  | .tup ds => .ok ds M
  | .lst ds => .ok ds M
  | .str z => .ok (signs z) M
  | _ => .err
def mItems (m : ME) : MA := fun env M => (m env M).bind fun d M1 => itemsD d M1
theorem wk_tup {K : PySem.W.Frag} {ρ : Rho} {M : MH} {H : Hp} {a : Addr} {ds : List D} {xs : List V} (Rl : Rel K ρ M H) (hs : SqT K H a xs) (hd : Dens K ρ H ds xs) : Wk K ρ H (Itt K a) ds where
  goes := fun i ρ' M' H' hi R' S _ => walk_tup.goes i H' (by rw [← hd.length]; exact hi) (SqT.tr S hs)
  stops := fun ρ' M' H' R' S _ => by
    rw [hd.length]
    exact walk_tup.stops H' (SqT.tr S hs)
  yields := fun i ρ' M' H' x H'' d hd' R' S _ y => by
    obtain ⟨v, h1, h2⟩ := hd.get hd'
    obtain ⟨e1, e2⟩ := walk_tup.yields i H' x H'' ((List.getElem?_eq_some_iff.mp h1).1) (SqT.tr S hs) y
    subst e1
    rw [h1] at e2
    cases e2
    exact ⟨R', Stp.refl (K := K) (M := M), Den.tr S _ _ h2⟩
theorem wk_lst {K : PySem.W.Frag} {ρ : Rho} {M : MH} {H : Hp} {a : Addr} {ds : List D} {xs : List V} (Rl : Rel K ρ M H) (hs : LsV K ρ H a xs) (hd : Dens K ρ H ds xs) : Wk K ρ H (Itl K a) ds where
  goes := fun i ρ' M' H' hi R' S _ => walk_list.goes i H' (by rw [← hd.length]; exact hi) (hs.tr S).sq
  stops := fun ρ' M' H' R' S _ => by
    rw [hd.length]
    exact walk_list.stops H' (hs.tr S).sq
  yields := fun i ρ' M' H' x H'' d hd' R' S _ y => by
    obtain ⟨v, h1, h2⟩ := hd.get hd'
    obtain ⟨e1, e2⟩ := walk_list.yields i H' x H'' ((List.getElem?_eq_some_iff.mp h1).1) (hs.tr S).sq y
    subst e1
    rw [h1] at e2
    cases e2
    exact ⟨R', Stp.refl (K := K) (M := M), Den.tr S _ _ h2⟩
theorem signs_get {z : Str} {i : Nat} {d : D} (h : (signs z)[i]? = some d) : ∃ c, z.cps[i]? = some c ∧ d = .str ⟨#[c]⟩ := by
  unfold signs at h
  rw [List.getElem?_map] at h
  obtain ⟨c, h1, h2⟩ := Option.map_eq_some_iff.mp h
  exact ⟨c, by simpa using h1, h2.symm⟩
theorem signs_len (z : Str) : (signs z).length = z.cps.size := by simp [signs]
theorem wk_str {K : PySem.W.Frag} {ρ : Rho} {M : MH} {H : Hp} {z : Str} : Wk K ρ H (Its z) (signs z) where
  goes := fun i ρ' M' H' hi _ _ _ => by
    rw [signs_len] at hi
    exact hi
  stops := fun ρ' M' H' _ _ _ => by
    rw [signs_len]
    exact Nat.le_refl _
  yields := fun i ρ' M' H' x H'' d hd R' S _ y => by
    obtain ⟨e1, c, hc, e2⟩ := y
    obtain ⟨c', hc', e3⟩ := signs_get hd
    rw [hc] at hc'
    cases hc'
    subst e1 e2 e3
    exact ⟨R', Stp.refl (K := K) (M := M'), den_str.mpr rfl⟩
/-- over a tuple, a list, a text -/
theorem i_seq {tg e : Expr} {m : ME} (h : SE X W e m) : SI X W tg e (mItems m) := by
  refine ⟨fun pins s σ H Rr I q => ?_⟩
  obtain ⟨ρ, M, env, Rl, E, q⟩ := q
  have q0 := q
  unfold mItems at q0
  have key : ∀ d M1, m env M = .ok d M1 → Ok X.K ρ H (DnI X.K) (fun c d H' => W c d σ H') (fun J H1 => Rr J H1) (itemsD d M1) := fun d M1 e => by
    rw [e] at q0
    exact q0
  have viaT : (∀ ds M1, m env M = .ok (.lst ds) M1 → False) → (∀ z M1, m env M = .ok (.str z) M1 → False) → wpAny (model X.prog X.w) X.A (eval e X.env) (fun v s1 => wpAny (model X.prog X.w) X.A (pyIter v) (PIE X pins σ tg Rr) X.xe s1) X.xe s := fun no no2 => by
    refine (pi_tup h).run pins s σ H Rr I ?_
    refine ⟨ρ, M, env, Rl, E, q0.bind fun d M1 ρ1 H1 v e S R1 dv q1 => ?_⟩
    cases d <;> first
      | exact q1.elim
      | exact (no _ _ e).elim
      | exact (no2 _ _ e).elim
      | (obtain ⟨a, xs, rfl, hs, hd⟩ := den_tup.mp dv
         exact ⟨a, rfl, ⟨xs, hs⟩, q1 ρ1 H1 _ (Stp.refl (K := X.K) (M := M1)) R1 (wk_tup R1 hs hd)⟩)
  cases r : m env M with
  | err => exact viaT (fun ds M1 e => by rw [r] at e; cases e) fun ds M1 e => by rw [r] at e; cases e
  | exc c fs M1 => exact viaT (fun ds M1 e => by rw [r] at e; cases e) fun ds M1 e => by rw [r] at e; cases e
  | ok d M1 =>
    cases d with
    | lst ds =>
      refine (pi_list h).run pins s σ H Rr I ?_
      refine ⟨ρ, M, env, Rl, E, q0.bind fun d M1 ρ1 H1 v e S R1 dv q1 => ?_⟩
      rw [r] at e
      cases e
      obtain ⟨a, xs, rfl, hs, hd⟩ := den_lst.mp dv
      exact ⟨a, rfl, ⟨xs, hs.sq⟩, q1 ρ1 H1 _ (Stp.refl (K := X.K) (M := M1)) R1 (wk_lst R1 hs hd)⟩
    | str z =>
      refine (pi_str h).run pins s σ H Rr I ?_
      refine ⟨ρ, M, env, Rl, E, q0.bind fun d M1 ρ1 H1 v e S R1 dv q1 => ?_⟩
      rw [r] at e
      cases e
      exact ⟨z, den_str.mp dv, q1 ρ1 H1 _ (Stp.refl (K := X.K) (M := M1)) R1 (wk_str (M := M1))⟩
    | _ => exact viaT (fun ds M1 e => by rw [r] at e; cases e) fun ds M1 e => by rw [r] at e; cases e
/-- over range(n), range(a, b) -/
def rangeL (lo : Int) (n : Nat) : List D := (List.range n).map fun (i : Nat) => .int (lo + i)
theorem rangeL_get {lo : Int} {n i : Nat} {d : D} (h : (rangeL lo n)[i]? = some d) : i < n ∧ d = .int (lo + i) := by
  unfold rangeL at h
  rw [List.getElem?_map] at h
  obtain ⟨j, h1, h2⟩ := Option.map_eq_some_iff.mp h
  have h3 := (List.getElem?_eq_some_iff.mp h1)
  obtain ⟨h4, h5⟩ := h3
  rw [List.length_range] at h4
  rw [List.getElem_range] at h5
  subst h5
  exact ⟨h4, h2.symm⟩
theorem rangeL_len (lo : Int) (n : Nat) : (rangeL lo n).length = n := by simp [rangeL]
def rng1D : List D → MH → R (List D) := fun ds M => match ds with
  | [.int j] => if j.natAbs < lim then .ok (rangeL 0 j.toNat) M else .err
  | _ => .err
def rng2D : List D → MH → R (List D) := fun ds M => match ds with
  | [.int i, .int j] => if i.natAbs < lim ∧ j.natAbs < lim then .ok (rangeL i (j - i).toNat) M else .err
  | _ => .err
def mI (f : List D → MH → R (List D)) (a : MA) : MA := fun env M => (a env M).bind fun xs M1 => f xs M1
theorem wk_rng {K : PySem.W.Frag} {ρ : Rho} {M : MH} {H : Hp} {lo : Int} {n : Nat} : Wk K ρ H (Itr lo n) (rangeL lo n) where
  goes := fun i ρ' M' H' hi _ _ _ => by
    rw [rangeL_len] at hi
    exact hi
  stops := fun ρ' M' H' _ _ _ => by
    rw [rangeL_len]
    exact Nat.le_refl n
  yields := fun i ρ' M' H' x H'' d hd R' S _ y => by
    obtain ⟨e1, e2⟩ := y
    obtain ⟨_, e3⟩ := rangeL_get hd
    subst e1 e2 e3
    exact ⟨R', Stp.refl (K := K) (M := M'), den_int.mpr rfl⟩
theorem far {j : Int} (h : j.natAbs < lim) : -(2 ^ 62) ≤ j ∧ j < 2 ^ 62 := by
  have e : (2 : Int) ^ 62 = 4611686018427387904 := by decide +kernel
  have h2 : j.natAbs < 1000000 := h
  rw [e]
  omega
theorem rng1_o {K : PySem.W.Frag} {ρ : Rho} {M : MH} {H : Hp} {W : Value → Option Addr → Hp → Prop} {Q : It → Hp → Prop} {ds : List D} {vs : List V} (R1 : Rel K ρ M H) (dv : Dens K ρ H ds vs) (q1 : Ok K ρ H (DnI K) W Q (rng1D ds M)) :
    ∃ j : Int, vs = [.int j] ∧ -(2 ^ 62) ≤ j ∧ j < 2 ^ 62 ∧ Q (Itr 0 j.toNat) H := by
  unfold rng1D at q1
  split at q1
  · rename_i j
    split at q1
    · rename_i z
      exact ⟨j, dens_ints_inv (ns := [j]) dv, (far z).1, (far z).2, q1 ρ H _ (Stp.refl (K := K) (M := M)) R1 (wk_rng (M := M))⟩
    · exact q1.elim
  · exact q1.elim
theorem rng2_o {K : PySem.W.Frag} {ρ : Rho} {M : MH} {H : Hp} {W : Value → Option Addr → Hp → Prop} {Q : It → Hp → Prop} {ds : List D} {vs : List V} (R1 : Rel K ρ M H) (dv : Dens K ρ H ds vs) (q1 : Ok K ρ H (DnI K) W Q (rng2D ds M)) :
    ∃ i j : Int, vs = [.int i, .int j] ∧ (-(2 ^ 62) ≤ i ∧ i < 2 ^ 62 ∧ -(2 ^ 62) ≤ j ∧ j < 2 ^ 62) ∧ Q (Itr i (j - i).toNat) H := by
  unfold rng2D at q1
  split at q1
  · rename_i i j
    split at q1
    · rename_i z
      exact ⟨i, j, dens_ints_inv (ns := [i, j]) dv, ⟨(far z.1).1, (far z.1).2, (far z.2).1, (far z.2).2⟩, q1 ρ H _ (Stp.refl (K := K) (M := M)) R1 (wk_rng (M := M))⟩
    · exact q1.elim
  · exact q1.elim
theorem i_rng1 {tg a : Expr} {p pos : Pos} {ma : MA} (hm : X.mg "range" = none) (h : SA X W [a] ma) (hg : Gl X "range" := by rfl) (hs : starEach [a] X.env = [(false, eval a X.env)] := by rfl) : SI X W tg (.Call (.Name "range" p) [a] [] pos) (mI rng1D ma) := by
  refine ⟨fun pins s σ H Rr I q => (pi_range1 hg hm h hs).run pins s σ H Rr I ?_⟩
  obtain ⟨ρ, M, env, Rl, E, q⟩ := q
  exact ⟨ρ, M, env, Rl, E, q.bind fun ds M1 ρ1 H1 vs _ S R1 dv q1 => rng1_o R1 dv q1⟩
theorem i_rng2 {tg a b : Expr} {p pos : Pos} {ma : MA} (hm : X.mg "range" = none) (h : SA X W [a, b] ma) (hg : Gl X "range" := by rfl) (hs : starEach [a, b] X.env = [(false, eval a X.env), (false, eval b X.env)] := by rfl) (hs2 : starEach [b] X.env = [(false, eval b X.env)] := by rfl) :
    SI X W tg (.Call (.Name "range" p) [a, b] [] pos) (mI rng2D ma) := by
  refine ⟨fun pins s σ H Rr I q => (pi_range2 hg hm h hs hs2).run pins s σ H Rr I ?_⟩
  obtain ⟨ρ, M, env, Rl, E, q⟩ := q
  exact ⟨ρ, M, env, Rl, E, q.bind fun ds M1 ρ1 H1 vs _ S R1 dv q1 => rng2_o R1 dv q1⟩

/-! ### targets: a name, names in a tuple -/
/-- an item put into slots; js: these slots -/
structure SG (X : Cx) (tg : Expr) (js : List Nat) (g : D → En → Option En) : Prop where
  run : ∃ t : TG, PG X tg t ∧ ∀ ρ M H d v env env' σ (Q : L2.St → Hp → Prop), Rel X.K ρ M H → EnR X.K ρ H env σ → Den X.K ρ H d v → g d env = some env' →
    (∀ σ', EnR X.K ρ H env' σ' → σ'.length = σ.length → (∀ k, k ∉ js → σ'[k]? = σ[k]?) → Q σ' H) → t v σ H Q
def gNam (i : Nat) : D → En → Option En := fun d env => some (env.set i (some d))
theorem g_name {i : Nat} {x : Str} {pos : Pos} (hN : X.N.Nodup) (hi : X.N[i]? = some x) (hx : Loc X.env.scope x) (hf : X.fn x = true ∨ X.env.scope.names.lookup x = some .local := by first | exact .inl rfl | exact .inr rfl | assumption) : SG X (.Name x pos) [i] (gNam i) :=
  ⟨gName i, pg_name hN hi hx hf, fun ρ M H d v env env' σ Q Rl E dv e q => by
    cases e
    exact q _ (E.set i dv) (by simp) fun k hk => List.getElem?_set_ne (fun z => hk (by simp [z]))⟩
structure SGs (X : Cx) (ts : List Expr) (js : List Nat) (g : List D → En → Option En) : Prop where
  run : ∃ t : TGs, PGs X ts t ∧ ∀ ρ M H ds vs env env' σ (Q : L2.St → Hp → Prop), Rel X.K ρ M H → EnR X.K ρ H env σ → Dens X.K ρ H ds vs → g ds env = some env' →
    (∀ σ', EnR X.K ρ H env' σ' → σ'.length = σ.length → (∀ k, k ∉ js → σ'[k]? = σ[k]?) → Q σ' H) → t vs σ H Q
def gsNil : List D → En → Option En := fun ds env => match ds with
  | [] => some env
  | _ => none
def gsCons (g : D → En → Option En) (r : List D → En → Option En) : List D → En → Option En := fun ds env => match ds with
  | d :: ds => (g d env).bind fun env' => r ds env'
  | [] => none
theorem g_nil : SGs X [] [] gsNil :=
  ⟨gNil, pgs_nil, fun ρ M H ds vs env env' σ Q Rl E dv e q => by
    cases ds with
    | nil =>
      cases e
      exact ⟨dens_nil.mp dv, q σ E rfl fun _ _ => rfl⟩
    | cons d ds => cases e⟩
theorem g_cons {e : Expr} {es : List Expr} {js ks : List Nat} {g : D → En → Option En} {r : List D → En → Option En} (h1 : SG X e js g) (h2 : SGs X es ks r)
    (hs : (assignEach (e :: es) X.env).map (·.2) = assign e X.env :: (assignEach es X.env).map (·.2) := by rfl) : SGs X (e :: es) (js ++ ks) (gsCons g r) := by
  obtain ⟨t, p1, q1⟩ := h1.run
  obtain ⟨u, p2, q2⟩ := h2.run
  refine ⟨gCons t u, pgs_cons p1 p2 hs, fun ρ M H ds vs env env' σ Q Rl E dv e q => ?_⟩
  cases ds with
  | nil => cases e
  | cons d ds =>
    obtain ⟨v, r', rfl, d1, d2⟩ := dens_cons.mp dv
    have e' : (g d env).bind (fun env' => r ds env') = some env' := e
    obtain ⟨env1, e1, e2⟩ := Option.bind_eq_some_iff.mp e'
    refine ⟨v, r', rfl, q1 ρ M H d v env env1 σ _ Rl E d1 e1 fun σ1 E1 l1 k1 => ?_⟩
    refine q2 ρ M H ds r' env1 env' σ1 Q Rl E1 d2 e2 fun σ2 E2 l2 k2 => q σ2 E2 (l2.trans l1) fun k hk => ?_
    rw [k2 k fun z => hk (List.mem_append_right _ z), k1 k fun z => hk (List.mem_append_left _ z)]
def gTupD (n : Nat) (g : List D → En → Option En) : D → En → Option En := fun d env => match d with
  | .tup ds => if ds.length = n then g ds env else none
  | _ => none
theorem g_tup {es : List Expr} {k : Nat} {js : List Nat} {pos : Pos} {g : List D → En → Option En} {n : Nat} (hc : X.calm = true) (h : SGs X es js g)
    (hn : (assignEach es X.env).length = n := by rfl) (hst : (assignEach es X.env).findIdx? (·.1) = none := by rfl) : SG X (.Tuple es k pos) js (gTupD n g) := by
  obtain ⟨t, p, q⟩ := h.run
  refine ⟨gTup X.K n t, pg_tup hc p hn hst, fun ρ M H d v env env' σ Q Rl E dv e w => ?_⟩
  cases d with
  | tup ds =>
    obtain ⟨a, xs, rfl, hs, hd⟩ := den_tup.mp dv
    unfold gTupD at e
    simp only at e
    split at e
    · rename_i z
      exact ⟨a, xs, rfl, hs, by rw [← hd.length]; exact z, q ρ M H ds xs env env' σ Q Rl E hd e w⟩
    · cases e
  | _ => cases e

/-! ### comprehensions -/
def wipeE (env : En) : List Nat → En
  | [] => env
  | v :: vs => (wipeE env vs).set v none
theorem EnR.wipe {K : PySem.W.Frag} {ρ : Rho} {H : Hp} {env : En} {σ : L2.St} (E : EnR K ρ H env σ) : ∀ vs : List Nat, EnR K ρ H (wipeE env vs) (L2.wipe σ vs)
  | [] => E
  | v :: vs => by
    have ih := EnR.wipe E vs
    refine ⟨by unfold wipeE L2.wipe; rw [List.length_set, List.length_set]; exact ih.len, fun i d h => ?_⟩
    unfold wipeE at h
    unfold L2.wipe
    by_cases hi : v = i
    · subst hi
      by_cases hv : v < (wipeE env vs).length
      · rw [List.getElem?_set_self hv] at h; cases h
      · rw [List.getElem?_eq_none (by simpa using hv)] at h; cases h
    · rw [List.getElem?_set_ne hi] at h
      rw [List.getElem?_set_ne hi]
      exact ih.get i d h
theorem wipe_mem {σ : L2.St} {k : Nat} : ∀ {vs : List Nat}, k ∈ vs → k < σ.length → (L2.wipe σ vs)[k]? = some none
  | [], h, _ => by simp at h
  | v :: vs, h, hk => by
    unfold L2.wipe
    by_cases hv : v = k
    · subst hv
      rw [List.getElem?_set_self (by rw [wipe_length]; exact hk)]
    · rw [List.getElem?_set_ne hv]
      refine wipe_mem ?_ hk
      rcases List.mem_cons.mp h with z | z
      · exact absurd z.symm hv
      · exact z
theorem wipe_not {σ : L2.St} {k : Nat} : ∀ {vs : List Nat}, k ∉ vs → (L2.wipe σ vs)[k]? = σ[k]?
  | [], _ => rfl
  | v :: vs, h => by
    unfold L2.wipe
    rw [List.getElem?_set_ne fun z => h (by simp [z])]
    exact wipe_not fun z => h (List.mem_cons_of_mem _ z)
theorem wipe_same {σ σ' : L2.St} {vs : List Nat} (hl : σ'.length = σ.length) (h : ∀ k, k ∉ vs → σ'[k]? = (L2.wipe σ vs)[k]?) : L2.wipe σ' vs = L2.wipe σ vs := by
  refine List.ext_getElem? fun k => ?_
  by_cases hk : k ∈ vs
  · by_cases hl2 : k < σ.length
    · rw [wipe_mem hk hl2, wipe_mem hk (by rw [hl]; exact hl2)]
    · rw [List.getElem?_eq_none (by rw [wipe_length]; omega), List.getElem?_eq_none (by rw [wipe_length]; omega)]
  · rw [wipe_not hk, h k hk]
/-- nothing is let out -/
def noX {α : Type} : R α → R α
  | .ok a M => .ok a M
  | _ => .err
def lcOne (g : D → En → Option En) (t : MT) (e : ME) (env : En) : D → MH → R (Option D) := fun x M => match g x env with
  | some env' => (noX (t env' M)).bind fun b M1 => if b = true then (noX (e env' M1)).bind fun d M2 => .ok (some d) M2 else .ok none M1
  | none => .err
def lcGo (f : D → MH → R (Option D)) : List D → MH → R (List D)
  | [], M => .ok [] M
  | x :: xs, M => (f x M).bind fun o M1 => (lcGo f xs M1).bind fun r M2 => .ok (match o with | some d => d :: r | none => r) M2
def mLc (mi : MA) (g : D → En → Option En) (t : MT) (e : ME) (vs : List Nat) : ME := fun env M => (mi env M).bind fun items M1 => if items.length < lim then (lcGo (lcOne g t e (wipeE env vs)) items M1).bind fun ds M2 => .ok (.lst ds) M2 else .err
def mYes : MT := fun _ M => .ok true M
abbrev W0 : WX := fun _ _ _ _ => False
def SPt (X : Cx) (W : WX) (ifs : List Expr) (m : MT) : Prop := PTs X ifs (tm X.K DnB W m)
theorem p_nil : SPt X W [] mYes := ⟨fun pins s σ H Q I q => by
  obtain ⟨ρ, M, env, Rl, E, q⟩ := q
  exact pts_nil.run pins s σ H Q I (hereB Rl q)⟩
theorem p_one {c : Expr} {m : MT} (h : ST X W c m) : SPt X W [c] m := pts_one h
end
end Mi

end

section
/-! Mi, eighth part: a list made by a comprehension. -/
namespace Mi
open PySem PySem.Spec PyProof.Rows L2
section
variable {K : PySem.W.Frag}
theorem lcOne_ne {g : D → En → Option En} {t : MT} {e : ME} {env : En} {x : D} {M : MH} : ∀ c fs M', lcOne g t e env x M ≠ .exc c fs M' := by
  intro c fs M' h
  unfold lcOne at h
  cases hg : g x env with
  | none => rw [hg] at h; cases h
  | some env' =>
    rw [hg] at h
    simp only at h
    cases ht : t env' M with
    | ok b M1 =>
      rw [ht] at h
      simp only [noX, R.bind_ok] at h
      cases b with
      | false => cases h
      | true =>
        simp only [if_pos] at h
        cases he : e env' M1 with
        | ok d M2 => rw [he] at h; cases h
        | exc c2 f2 M2 => rw [he] at h; cases h
        | err => rw [he] at h; cases h
    | exc c2 f2 M2 => rw [ht] at h; cases h
    | err => rw [ht] at h; cases h
/-- how far it has come: ds is made, at Dl -/
def LcP (K : PySem.W.Frag) (ρ1 : Rho) (M1 : MH) (H1 : Hp) (Dl : Addr) (f : D → MH → R (Option D)) (items : List D) (i : Nat) (H : Hp) : Prop :=
  ∃ ρ M acc ds, Rel K (ρ.hide Dl) M H ∧ Stp ρ1 H1 ρ H ∧ Tr ρ1 H1 (ρ.hide Dl) H ∧ H Dl = some (.lst acc) ∧ Dens K (ρ.hide Dl) H ds acc ∧ acc.length ≤ i ∧ lcGo f items M1 = (lcGo f (items.drop i) M).bind fun r M2 => .ok (ds ++ r) M2
theorem bind_eta {α : Type} (r : R (List α)) : (r.bind fun x M => .ok ([] ++ x) M) = r := by cases r <;> rfl
theorem lcP_start {ρ1 : Rho} {M1 : MH} {H1 : Hp} {Dl : Addr} {f : D → MH → R (Option D)} {items : List D} (Rl : Rel K ρ1 M1 H1) (hD : H1 Dl = none) : LcP K ρ1 M1 H1 Dl f items 0 (upd H1 Dl (.lst [])) :=
  ⟨ρ1, M1, [], [], Rl.hide hD, Stp.alloc hD, Tr.hide hD, upd_same, dens_nil.mpr rfl, Nat.le_refl _, by rw [List.drop_zero, bind_eta]⟩
/-- behind a turn: the hidden list is the same object still -/
theorem stp_out {ρ1 ρ ρ4 : Rho} {H1 H H4 : Hp} {Dl : Addr} (hD : H1 Dl = none) (S : Stp ρ1 H1 ρ H) (S4 : Stp (ρ.hide Dl) H ρ4 H4) : Stp ρ1 H1 ⟨ρ4.c, ρ.h⟩ H4 where
  pre := fun l o h => by
    rcases S.pre l o h with q | q
    · exact S4.pre l o q
    · rcases S4.pre l none q with z | z <;> exact .inr z
  new := fun x m => by
    rcases S4.new x m with q | q
    · exact S.new x q
    · cases e : H1 x with
      | none => exact .inr rfl
      | some o =>
        by_cases hx : some x ∈ ρ1.c
        · exact .inl hx
        · rw [S.keep x o e hx] at q; cases q
  keep := fun x o h n => S4.keep x o (S.keep x o h n) (S.notin h n)
  hid := S.hid
theorem stp_app {ρ1 ρ : Rho} {H1 H : Hp} {Dl : Addr} {o : HO} (hD : H1 Dl = none) (S : Stp ρ1 H1 ρ H) : Stp ρ1 H1 ρ (upd H Dl o) where
  pre := S.pre
  new := S.new
  keep := fun x u h n => by
    rw [upd_ne (ne_of_none h hD)]
    exact S.keep x u h n
  hid := S.hid
theorem rho_hide {ρ ρ4 : Rho} {Dl : Addr} (h : ρ4.h = (ρ.hide Dl).h) : ρ4 = (⟨ρ4.c, ρ.h⟩ : Rho).hide Dl := by
  cases ρ4 with
  | mk c hh =>
    have e : hh = Dl :: ρ.h := h
    subst e
    rfl
end
section
variable {X : Cx} {W : WX}
theorem drop_cons {α : Type} {xs : List α} {i : Nat} {x : α} (h : xs[i]? = some x) : xs.drop i = x :: xs.drop (i + 1) := by
  obtain ⟨hi, e⟩ := List.getElem?_eq_some_iff.mp h
  rw [List.drop_eq_getElem_cons hi, e]
/-- the weakest reading of a target -/
def gW (K : PySem.W.Frag) (js : List Nat) (g : D → En → Option En) : TG := fun v σ H Q => ∃ ρ M d env env', Rel K ρ M H ∧ EnR K ρ H env σ ∧ Den K ρ H d v ∧ g d env = some env' ∧ ∀ σ', EnR K ρ H env' σ' → σ'.length = σ.length → (∀ k, k ∉ js → σ'[k]? = σ[k]?) → Q σ' H
theorem gW_of {tg : Expr} {js : List Nat} {g : D → En → Option En} (h : SG X tg js g) : PG X tg (gW X.K js g) := by
  obtain ⟨t, p, q⟩ := h.run
  refine ⟨fun pins s1 σ H1 v u Q I r h => p.run pins s1 σ H1 v u Q I r ?_⟩
  obtain ⟨ρ, M, d, env, env', h1, h2, h3, h4, h5⟩ := h
  exact q ρ M H1 d v env env' σ Q h1 h2 h3 h4 h5
theorem lc_imp {K : PySem.W.Frag} {mi : MA} {js vs : List Nat} {g : D → En → Option En} {mt : MT} {me : ME} {σ : L2.St} {H : Hp} {Q : VK} (hj : ∀ j ∈ js, j ∈ vs) (h : tm K (DnD K) W (mLc mi g mt me vs) σ H Q) :
    tLc (tm K (DnI K) W mi) (gW K js g) (tm K DnB W0 mt) (tm K (DnD K) W0 me) vs σ H Q := by
  refine tm_bind (f := fun items env M1 => if items.length < lim then (lcGo (lcOne g mt me (wipeE env vs)) items M1).bind fun ds M2 => (R.ok (D.lst ds) M2 : R D) else .err) h fun items M1 ρ1 H1 J env R1 E1 wk h => ?_
  intro Dl hD
  split at h
  rotate_left
  · exact h.elim
  rename_i hlim
  have tot : lcGo (lcOne g mt me (wipeE env vs)) items M1 ≠ .err := fun e => by
    rw [e] at h
    exact h
  -- the walk over the items
  have wk' : Wk K ρ1 H1 J items := wk
  refine ⟨fun i m H' => m = items.length - i ∧ i ≤ items.length ∧ LcP K ρ1 M1 H1 Dl (lcOne g mt me (wipeE env vs)) items i H', ⟨items.length, by simp, Nat.zero_le _, lcP_start R1 hD⟩, ?_⟩
  rintro i m H' ⟨rfl, hi', ρ, M, acc, ds, Rl, S, T, eD, dd, hl, eq⟩
  by_cases hlt : i < items.length
  · refine .inr ⟨wk'.goes i _ M H' hlt Rl T (S.fk R1), fun H'' => i + 1 ≤ items.length ∧ LcP K ρ1 M1 H1 Dl (lcOne g mt me (wipeE env vs)) items (i + 1) H'', fun H'' p => ⟨items.length - (i + 1), by omega, rfl, p.1, p.2⟩, fun x H2 y => ?_⟩
    have hx : items[i]? = some items[i] := List.getElem?_eq_getElem hlt
    obtain ⟨R2, S2, dx⟩ := wk'.yields i _ M H' x H2 items[i] hx Rl T (S.fk R1) y
    have T2 : Tr (ρ.hide Dl) H' (ρ.hide Dl) H2 := S2.tr Rl
    rw [drop_cons hx] at eq
    -- what the turn comes to
    have e1 : ∀ r, lcOne g mt me (wipeE env vs) items[i] M = r → r ≠ .err := fun r e z => by
      refine tot ?_
      rw [eq]
      show ((lcOne g mt me (wipeE env vs) items[i] M).bind _).bind _ = _
      rw [e, z]
      rfl
    cases hgx : g items[i] (wipeE env vs) with
    | none => exact absurd (by unfold lcOne; rw [hgx]) (e1 _ rfl)
    | some env' =>
      have E2 : EnR K (ρ.hide Dl) H2 (wipeE env vs) (L2.wipe σ vs) := ((E1.tr T).tr T2).wipe _
      refine ⟨ρ.hide Dl, M, items[i], _, env', R2, E2, dx, hgx, fun σ2 E3 l3 keep => ⟨wipe_same (by rw [l3, wipe_length]) fun k hk => keep k fun z => hk (hj k z), ?_⟩⟩
      -- the tests
      have step : lcOne g mt me (wipeE env vs) items[i] M = (noX (mt env' M)).bind fun b M1 => if b = true then (noX (me env' M1)).bind fun d M2 => .ok (some d) M2 else .ok none M1 := by
        unfold lcOne
        rw [hgx]
      refine ⟨ρ.hide Dl, M, env', R2, E3, ?_⟩
      cases ht1 : mt env' M with
      | err => exact (e1 _ (by rw [step, ht1]; rfl)) rfl
      | exc c fs Mx => exact ((e1 _ (by rw [step, ht1]; rfl)) rfl).elim
      | ok b M3 =>
        intro ρ3 H3 b' S3 R3 eb
        cases (show b = b' from eb)
        have eD3 : H3 Dl = some (.lst acc) := S3.keep Dl _ (S2.keep Dl _ eD (Rl.hid Dl List.mem_cons_self).1) (R2.hid Dl List.mem_cons_self).1
        have T3 : Tr (ρ.hide Dl) H' ρ3 H3 := T2.trans (S3.tr R2)
        have Sx : Stp (ρ.hide Dl) H' ρ3 H3 := S2.trans S3
        cases b with
        | false =>
          show (if false = true then _ else _)
          rw [if_neg (by decide)]
          refine ⟨hlt, ⟨ρ3.c, ρ.h⟩, M3, acc, ds, ?_, stp_out hD S Sx, ?_, eD3, ?_, Nat.le_succ_of_le hl, ?_⟩
          · rw [← rho_hide Sx.hid]; exact R3
          · rw [← rho_hide Sx.hid]; exact T.trans T3
          · rw [← rho_hide Sx.hid]; exact Dens.tr T3 _ _ dd
          · rw [eq]
            show ((lcOne g mt me (wipeE env vs) items[i] M).bind _).bind _ = _
            rw [step, ht1]
            show (((R.ok (none : Option D) M3)).bind _).bind _ = _
            simp only [R.bind_ok]
            cases lcGo (lcOne g mt me (wipeE env vs)) (items.drop (i + 1)) M3 <;> rfl
        | true =>
          show (if true = true then _ else _)
          rw [if_pos rfl]
          refine ⟨ρ3, M3, env', R3, E3.tr (S3.tr R2), ?_⟩
          cases he1 : me env' M3 with
          | err => exact (e1 _ (by rw [step, ht1]; show (R.bind (noX (me env' M3)) _) = _; rw [he1]; rfl)) rfl
          | exc c fs Mx => exact ((e1 _ (by rw [step, ht1]; show (R.bind (noX (me env' M3)) _) = _; rw [he1]; rfl)) rfl).elim
          | ok d M4 =>
            intro ρ4 H4 v S4 R4 dv
            have m3 : Dl ∈ ρ3.h := by rw [Sx.hid]; exact List.mem_cons_self
            have m4 : Dl ∈ ρ4.h := by rw [S4.hid]; exact m3
            have eD4 : H4 Dl = some (.lst acc) := S4.keep Dl _ eD3 (R3.hid Dl m3).1
            have Sy : Stp (ρ.hide Dl) H' ρ4 H4 := Sx.trans S4
            have T4 : Tr (ρ.hide Dl) H' ρ4 H4 := T3.trans (S4.tr R3)
            have T5 : Tr ρ4 H4 ρ4 (upd H4 Dl (.lst (acc ++ [v]))) := Tr.hidden m4 eD4
            have hsz : acc.length < sizeLine := lim_lt (by omega)
            refine ⟨acc, eD4, hsz, hlt, ⟨ρ4.c, ρ.h⟩, M4, acc ++ [v], ds ++ [d], ?_, stp_app hD (stp_out hD S Sy), ?_, upd_same, ?_, ?_, ?_⟩
            · rw [← rho_hide Sy.hid]; exact R4.hidden m4 eD4
            · rw [← rho_hide Sy.hid]; exact (T.trans T4).trans T5
            · rw [← rho_hide Sy.hid]
              exact (Dens.tr (T4.trans T5) _ _ dd).append (dens_cons.mpr ⟨v, [], rfl, Den.tr T5 _ _ dv, dens_nil.mpr rfl⟩)
            · rw [List.length_append]
              show acc.length + 1 ≤ i + 1
              omega
            · rw [eq]
              show ((lcOne g mt me (wipeE env vs) items[i] M).bind _).bind _ = _
              rw [step, ht1]
              show ((R.bind (noX (me env' M3)) _).bind _).bind _ = _
              rw [he1]
              show (((R.ok (some d) M4)).bind _).bind _ = _
              simp only [R.bind_ok]
              cases lcGo (lcOne g mt me (wipeE env vs)) (items.drop (i + 1)) M4 with
              | ok r M5 => simp
              | exc c fs M5 => rfl
              | err => rfl
  · have e : i = items.length := by omega
    subst e
    refine .inl ⟨wk'.stops _ M H' Rl T (S.fk R1), ?_⟩
    rw [List.drop_length] at eq
    have eq2 : lcGo (lcOne g mt me (wipeE env vs)) items M1 = .ok (ds ++ []) M := eq
    rw [eq2, List.append_nil] at h
    obtain ⟨n1, _⟩ := Rl.hid Dl List.mem_cons_self
    have n2 : Dl ∉ ρ.h := by
      rw [S.hid]
      exact R1.freshH hD
    exact h ρ H' (.ref Dl) S Rl.unhide (den_lst.mpr ⟨Dl, acc, rfl, .inl ⟨.inl eD, n1, n2⟩, Dens.tr Tr.unhide _ _ dd⟩)
theorem s_lc {elt tg iter : Expr} {ifs : List Expr} {scope : Scope} {own : List (Str × Nat)} {pos : Pos} {mi : MA} {js : List Nat} {g : D → En → Option En} {mt : MT} {me : ME} (hc : X.calm = true) (hN : X.N.Nodup) (hi : SI X W tg iter mi) (ok : BlkOk X.N X.env.scope scope own)
    (hj : ∀ j ∈ js, j ∈ own.map (·.2))
    (hg : ∀ (s : Shared) (H : Hp) (C : Addr) (cl : List (Str × Addr)) (fp : List Addr), SG (X.blk s H scope (compEnvC scope cl C X.env) fp) tg js g)
    (ht : ∀ (s : Shared) (H : Hp) (C : Addr) (cl : List (Str × Addr)) (fp : List Addr), SPt (X.blk s H scope (compEnvC scope cl C X.env) fp) W0 ifs mt)
    (he : ∀ (s : Shared) (H : Hp) (C : Addr) (cl : List (Str × Addr)) (fp : List Addr), SE (X.blk s H scope (compEnvC scope cl C X.env) fp) W0 elt me) (hs : ∀ x, foldedSetIterable iter X.env x = pure x := by intro _; rfl) :
    SE X W (.ListComp elt [⟨tg, iter, ifs, 0⟩] scope pos) (mLc mi g mt me (own.map (·.2))) :=
  pe_imp (pe_lc (g := gW X.K js g) (tt := tm X.K DnB W0 mt) (te := tm X.K (DnD X.K) W0 me) hc hN hi ok (fun s H C cl fp => gW_of (hg s H C cl fp)) (fun s H C cl fp => ht s H C cl fp) (fun s H C cl fp => he s H C cl fp) hs) fun _ _ _ h => lc_imp hj h
end
end Mi

end

section
/-! Mi, ninth part: statements. -/
namespace Mi
open PySem PySem.Spec PyProof.Rows L2

inductive RS where
  | nx (env : En) (M : MH)
  | ret (d : D) (M : MH)
  | bk (env : En) (M : MH)
  | ct (env : En) (M : MH)
  | exc (c : Str) (fs : Option (List (Str × D))) (env : En) (M : MH)
  | err
abbrev MS := En → MH → RS
def RS.bind (r : RS) (f : MS) : RS := match r with
  | .nx env M => f env M
  | r => r
/-- a value first, with these slots -/
def andS {α : Type} (r : R α) (env : En) (f : α → MH → RS) : RS := match r with
  | .ok a M => f a M
  | .exc c fs M => .exc c fs env M
  | .err => .err
@[simp] theorem RS.bind_nx (env : En) (M : MH) (f : MS) : (RS.nx env M).bind f = f env M := rfl
@[simp] theorem RS.bind_ret (d : D) (M : MH) (f : MS) : (RS.ret d M).bind f = .ret d M := rfl
@[simp] theorem RS.bind_bk (env : En) (M : MH) (f : MS) : (RS.bk env M).bind f = .bk env M := rfl
@[simp] theorem RS.bind_ct (env : En) (M : MH) (f : MS) : (RS.ct env M).bind f = .ct env M := rfl
@[simp] theorem RS.bind_exc (c : Str) (fs : Option (List (Str × D))) (env : En) (M : MH) (f : MS) : (RS.exc c fs env M).bind f = .exc c fs env M := rfl
@[simp] theorem RS.bind_err (f : MS) : RS.err.bind f = .err := rfl
@[simp] theorem andS_ok {α : Type} (a : α) (M : MH) (env : En) (f : α → MH → RS) : andS (.ok a M) env f = f a M := rfl
@[simp] theorem andS_exc {α : Type} (c : Str) (fs : Option (List (Str × D))) (M : MH) (env : En) (f : α → MH → RS) : andS (R.exc c fs M) env f = .exc c fs env M := rfl
@[simp] theorem andS_err {α : Type} (env : En) (f : α → MH → RS) : andS (R.err : R α) env f = .err := rfl

def OkS (K : PySem.W.Frag) (ρ : Rho) (H : Hp) (W : WX) (D : Ends) : RS → Prop
  | .nx env M => ∀ ρ' H' σ', Stp ρ H ρ' H' → Rel K ρ' M H' → EnR K ρ' H' env σ' → D.nx σ' H'
  | .ret d M => ∀ ρ' H' v, Stp ρ H ρ' H' → Rel K ρ' M H' → Den K ρ' H' d v → D.rt v H'
  | .bk env M => ∀ ρ' H' σ', Stp ρ H ρ' H' → Rel K ρ' M H' → EnR K ρ' H' env σ' → D.bk σ' H'
  | .ct env M => ∀ ρ' H' σ', Stp ρ H ρ' H' → Rel K ρ' M H' → EnR K ρ' H' env σ' → D.ct σ' H'
  | .exc c fs env M => ∀ ρ' H' d σ' cv, CN K c cv → Stp ρ H ρ' H' → Rel K ρ' M H' → XRel K ρ' H' fs d → EnR K ρ' H' env σ' → W cv d σ' H'
  | .err => False
theorem OkS.step {K : PySem.W.Frag} {ρ ρ1 : Rho} {H H1 : Hp} {W : WX} {D : Ends} {r : RS} (S : Stp ρ H ρ1 H1) (h : OkS K ρ H W D r) : OkS K ρ1 H1 W D r := by
  cases r with
  | nx env M => exact fun ρ' H' σ' S' => h ρ' H' σ' (S.trans S')
  | ret d M => exact fun ρ' H' σ' S' => h ρ' H' σ' (S.trans S')
  | bk env M => exact fun ρ' H' σ' S' => h ρ' H' σ' (S.trans S')
  | ct env M => exact fun ρ' H' σ' S' => h ρ' H' σ' (S.trans S')
  | exc c fs env M => exact fun ρ' H' d σ' cv cn S' => h ρ' H' d σ' cv cn (S.trans S')
  | err => exact h
def ts (K : PySem.W.Frag) (W : WX) (m : MS) : TS := fun D σ H => ∃ ρ M env, Rel K ρ M H ∧ EnR K ρ H env σ ∧ OkS K ρ H W D (m env M)
def SS (X : Cx) (W : WX) (st : Stmt) (m : MS) : Prop := PS X st (ts X.K W m)
def SB (X : Cx) (W : WX) (sts : List Stmt) (m : MS) : Prop := PSs X sts (ts X.K W m)
theorem ps_imp {X : Cx} {st : Stmt} {t t' : TS} (h : PS X st t) (i : ∀ D σ H, t' D σ H → t D σ H) : PS X st t' := ⟨fun pins s σ H D I q => h.run pins s σ H D I (i D σ H q)⟩
theorem pss_imp {X : Cx} {st : List Stmt} {t t' : TS} (h : PSs X st t) (i : ∀ D σ H, t' D σ H → t D σ H) : PSs X st t' := ⟨fun pins s σ H D I q => h.run pins s σ H D I (i D σ H q)⟩
/-- an expression's part of a statement -/
theorem andS_tm {α β : Type} {K : PySem.W.Frag} {dn : Rho → Hp → α → β → Prop} {W : WX} {D : Ends} {σ : L2.St} {H : Hp} {ρ : Rho} {M : MH} {env : En} {m : En → MH → R α} {f : α → MH → RS} {Q : β → Hp → Prop} (Rl : Rel K ρ M H) (E : EnR K ρ H env σ)
    (h : OkS K ρ H W D (andS (m env M) env f))
    (k : ∀ a M1 ρ1 H1 v, Rel K ρ1 M1 H1 → EnR K ρ1 H1 env σ → dn ρ1 H1 a v → OkS K ρ1 H1 W D (f a M1) → Q v H1) : tm K dn W m σ H Q := by
  refine ⟨ρ, M, env, Rl, E, ?_⟩
  cases e : m env M with
  | err => rw [e] at h; exact h
  | exc c fs M1 =>
    rw [e] at h
    exact fun ρ1 H1 d cv cn S R1 x => h ρ1 H1 d σ cv cn S R1 x (E.step Rl S)
  | ok a M1 =>
    rw [e] at h
    have h' : OkS K ρ H W D (f a M1) := h
    exact fun ρ1 H1 v S R1 dv => k a M1 ρ1 H1 v R1 (E.step Rl S) dv (h'.step S)
section
variable {X : Cx} {W : WX}
def bNil : MS := fun env M => .nx env M
def bCons (a b : MS) : MS := fun env M => (a env M).bind b
theorem b_nil : SB X W [] bNil := by
  refine pss_imp pss_nil fun D σ H h => ?_
  obtain ⟨ρ, M, env, Rl, E, h⟩ := h
  exact h ρ H σ (Stp.refl (K := X.K) (M := M)) Rl E
theorem b_cons {st : Stmt} {rest : List Stmt} {a b : MS} (h1 : SS X W st a) (h2 : SB X W rest b) : SB X W (st :: rest) (bCons a b) := by
  refine pss_imp (pss_cons h1 h2) fun D σ H h => ?_
  obtain ⟨ρ, M, env, Rl, E, h⟩ := h
  refine ⟨ρ, M, env, Rl, E, ?_⟩
  have h' : OkS X.K ρ H W D ((a env M).bind b) := h
  cases e : a env M with
  | nx env1 M1 =>
    rw [e] at h'
    exact fun ρ1 H1 σ1 S R1 E1 => ⟨ρ1, M1, env1, R1, E1, h'.step S⟩
  | ret d M1 => rw [e] at h'; exact h'
  | bk env1 M1 => rw [e] at h'; exact h'
  | ct env1 M1 => rw [e] at h'; exact h'
  | exc c fs env1 M1 => rw [e] at h'; exact h'
  | err => rw [e] at h'; exact h'
/-- the last one -/
theorem b_one {st : Stmt} {a : MS} (h1 : SS X W st a) : SB X W [st] a := pss_one h1
theorem c_pass {pos : Pos} : SS X W (.Pass pos) bNil := by
  refine ps_imp ps_pass fun D σ H h => ?_
  obtain ⟨ρ, M, env, Rl, E, h⟩ := h
  exact h ρ H σ (Stp.refl (K := X.K) (M := M)) Rl E
theorem c_doc {x j pos pos'} : SS X W (.Expr (.Constant (.str x) j pos) pos') bNil := by
  refine ps_imp ps_doc fun D σ H h => ?_
  obtain ⟨ρ, M, env, Rl, E, h⟩ := h
  exact h ρ H σ (Stp.refl (K := X.K) (M := M)) Rl E
def cBrk : MS := fun env M => .bk env M
def cCnt : MS := fun env M => .ct env M
theorem c_brk {pos : Pos} : SS X W (.Break pos) cBrk := by
  refine ps_imp ps_break fun D σ H h => ?_
  obtain ⟨ρ, M, env, Rl, E, h⟩ := h
  exact h ρ H σ (Stp.refl (K := X.K) (M := M)) Rl E
theorem c_cnt {pos : Pos} : SS X W (.Continue pos) cCnt := by
  refine ps_imp ps_continue fun D σ H h => ?_
  obtain ⟨ρ, M, env, Rl, E, h⟩ := h
  exact h ρ H σ (Stp.refl (K := X.K) (M := M)) Rl E
def cExp (m : ME) : MS := fun env M => andS (m env M) env fun _ M1 => .nx env M1
theorem c_exp {e : Expr} {pos : Pos} {m : ME} (h : SE X W e m) (hs : swapsWith e none pos.line X.env = pure false := by rfl) : SS X W (.Expr e pos) (cExp m) := by
  refine ps_imp (ps_expr h hs) fun D σ H q => ?_
  obtain ⟨ρ, M, env, Rl, E, q⟩ := q
  exact andS_tm Rl E q fun a M1 ρ1 H1 v R1 E1 dv q1 => q1 ρ1 H1 σ (Stp.refl (K := X.K) (M := M1)) R1 E1
def cRet (m : ME) : MS := fun env M => andS (m env M) env fun d M1 => .ret d M1
theorem c_ret {e : Expr} {pos : Pos} {m : ME} (h : SE X W e m) : SS X W (.Return (some e) pos) (cRet m) := by
  refine ps_imp (ps_ret h) fun D σ H q => ?_
  obtain ⟨ρ, M, env, Rl, E, q⟩ := q
  exact andS_tm Rl E q fun a M1 ρ1 H1 v R1 E1 dv q1 => q1 ρ1 H1 v (Stp.refl (K := X.K) (M := M1)) R1 dv
def cRetN : MS := fun _ M => .ret .non M
theorem c_retN {pos : Pos} : SS X W (.Return none pos) cRetN := by
  refine ps_imp ps_retN fun D σ H q => ?_
  obtain ⟨ρ, M, env, Rl, E, q⟩ := q
  exact q ρ H .non (Stp.refl (K := X.K) (M := M)) Rl (den_non.mpr rfl)
def cIf (c : MT) (a b : MS) : MS := fun env M => andS (c env M) env fun k M1 => if k = true then a env M1 else b env M1
theorem c_if {c : Expr} {sa sb : List Stmt} {pos : Pos} {mc : MT} {a b : MS} (hc : ST X W c mc) (ha : SB X W sa a) (hb : SB X W sb b) : SS X W (.If c sa sb pos) (cIf mc a b) := by
  refine ps_imp (ps_if hc ha hb) fun D σ H q => ?_
  obtain ⟨ρ, M, env, Rl, E, q⟩ := q
  refine andS_tm Rl E q fun k M1 ρ1 H1 v R1 E1 dv q1 => ?_
  cases (show k = v from dv)
  cases k with
  | true => exact ⟨ρ1, M1, env, R1, E1, q1⟩
  | false => exact ⟨ρ1, M1, env, R1, E1, q1⟩
/-! ### stores -/
def cAsg (m : ME) (g : D → En → Option En) : MS := fun env M => andS (m env M) env fun d M1 => match g d env with
  | some env' => .nx env' M1
  | none => .err
theorem asg_imp {K : PySem.W.Frag} {m : ME} {g : D → En → Option En} {te : TE} {js : List Nat} {D : Ends} {σ : L2.St} {H : Hp} (i : ∀ Q : VK, tm K (DnD K) W m σ H Q → te σ H Q) (q : ts K W (cAsg m g) D σ H) : tAsg te (gW K js g) D σ H := by
  obtain ⟨ρ, M, env, Rl, E, q⟩ := q
  refine i _ (andS_tm Rl E q fun d M1 ρ1 H1 v R1 E1 dv q1 => ?_)
  split at q1
  · rename_i env' e
    exact ⟨ρ1, M1, d, env, env', R1, E1, dv, e, fun σ' E2 _ _ => q1 ρ1 H1 σ' (Stp.refl (K := K) (M := M1)) R1 E2⟩
  · exact q1.elim
theorem c_asg {tg e : Expr} {pos : Pos} {m : ME} {js : List Nat} {g : D → En → Option En} (h : SE X W e m) (hg : SG X tg js g) (hs : swapsWithSole [tg] e pos.line X.env = pure false := by rfl) (hw : swappedStores [tg] e X.env = pure none := by rfl)
    (h1 : (assignEach [tg] X.env).map (·.2) = [assign tg X.env] := by rfl) : SS X W (.Assign [tg] e pos) (cAsg m g) :=
  ps_imp (ps_asg h (gW_of hg) hs hw h1) fun _ _ _ q => asg_imp (fun _ z => z) q
theorem c_set {i : Nat} {x : Str} {e : Expr} {pos pos' : Pos} {m : ME} (hN : X.N.Nodup) (h : SE X W e m) (hi : X.N[i]? = some x := by rfl) (hx : Loc X.env.scope x := by first | exact .inl rfl | exact .inr rfl) (hs : swapsWith e (some (.Name x pos')) pos.line X.env = pure false := by rfl)
    (hf : X.fn x = true ∨ X.env.scope.names.lookup x = some .local := by first | exact .inl rfl | exact .inr rfl | assumption) : SS X W (.Assign [.Name x pos'] e pos) (cAsg m (gNam i)) := by
  refine ps_imp (ps_set hN hi hx h hs hf) fun D σ H q => ?_
  obtain ⟨ρ, M, env, Rl, E, q⟩ := q
  exact andS_tm Rl E q fun d M1 ρ1 H1 v R1 E1 dv q1 => q1 ρ1 H1 _ (Stp.refl (K := X.K) (M := M1)) R1 (E1.set i dv)
/-- name = [.. for .. in ..] -/
theorem c_setLc {i : Nat} {y : Str} {py : Pos} {elt tg iter : Expr} {ifs : List Expr} {scope : Scope} {own : List (Str × Nat)} {pos spos : Pos} {mi : MA} {js : List Nat} {g : D → En → Option En} {mt : MT} {me : ME} (hc : X.calm = true) (hN : X.N.Nodup) (hi : SI X W tg iter mi) (ok : BlkOk X.N X.env.scope scope own)
    (hj : ∀ j ∈ js, j ∈ own.map (·.2))
    (hg : ∀ (s : Shared) (H : Hp) (C : Addr) (cl : List (Str × Addr)) (fp : List Addr), SG (X.blk s H scope (compEnvC scope cl C X.env) fp) tg js g)
    (ht : ∀ (s : Shared) (H : Hp) (C : Addr) (cl : List (Str × Addr)) (fp : List Addr), SPt (X.blk s H scope (compEnvC scope cl C X.env) fp) W0 ifs mt)
    (he : ∀ (s : Shared) (H : Hp) (C : Addr) (cl : List (Str × Addr)) (fp : List Addr), SE (X.blk s H scope (compEnvC scope cl C X.env) fp) W0 elt me)
    (hsw : swapsWith (.ListComp elt [⟨tg, iter, ifs, 0⟩] scope pos) (some (.Name y py)) spos.line X.env = pure true) (hy : X.N[i]? = some y := by rfl) (hyl : X.env.scope.names.lookup y = some .local := by rfl) (hs : ∀ x, foldedSetIterable iter X.env x = pure x := by intro _; rfl) :
    SS X W (.Assign [.Name y py] (.ListComp elt [⟨tg, iter, ifs, 0⟩] scope pos) spos) (cAsg (mLc mi g mt me (own.map (·.2))) (gNam i)) := by
  refine ps_imp (ps_setLc (g := gW X.K js g) (tt := tm X.K DnB W0 mt) (te := tm X.K (DnD X.K) W0 me) hc hN hy hyl hsw hi ok (fun s H C cl fp => gW_of (hg s H C cl fp)) (fun s H C cl fp => ht s H C cl fp) (fun s H C cl fp => he s H C cl fp) hs) fun D σ H q => ?_
  obtain ⟨ρ, M, env, Rl, E, q⟩ := q
  refine lc_imp (W := W) hj (andS_tm Rl E q fun d M1 ρ1 H1 v R1 E1 dv q1 => ?_)
  exact q1 ρ1 H1 _ (Stp.refl (K := X.K) (M := M1)) R1 (E1.set i dv)

/-! ### for, while -/
def forGo (g : D → En → Option En) (b : MS) : List D → MS
  | [], env, M => .nx env M
  | x :: xs, env, M => match g x env with
    | none => .err
    | some env' => match b env' M with
      | .nx e2 M2 => forGo g b xs e2 M2
      | .ct e2 M2 => forGo g b xs e2 M2
      | .bk e2 M2 => .nx e2 M2
      | .ret d M2 => .ret d M2
      | .exc c fs e2 M2 => .exc c fs e2 M2
      | .err => .err
def cFor (mi : MA) (g : D → En → Option En) (b : MS) : MS := fun env M => andS (mi env M) env fun items M1 => forGo g b items env M1
theorem c_for {tg iter : Expr} {body : List Stmt} {pos : Pos} {mi : MA} {js : List Nat} {g : D → En → Option En} {b : MS} (hp : PassesOwn (model X.prog X.w) X.A X.env X.xe) (hc : X.calm = true) (hi : SI X W tg iter mi) (hg : SG X tg js g) (hb : SB X W body b)
    (hs : ∀ x, foldedSetIterable iter X.env x = pure x := by intro _; rfl) : SS X W (.For tg iter body [] pos) (cFor mi g b) := by
  refine ps_imp (ps_for hp hc hi (gW_of hg) hb hs) fun D σ H q => ?_
  obtain ⟨ρ, M, env, Rl, E, q⟩ := q
  refine andS_tm Rl E q fun items M1 ρ1 H1 J R1 E1 wk q1 => ?_
  have wk' : Wk X.K ρ1 H1 J items := wk
  refine ⟨fun i m σ' H' => m = items.length - i ∧ i ≤ items.length ∧ ∃ ρ' M' env', Rel X.K ρ' M' H' ∧ Stp ρ1 H1 ρ' H' ∧ EnR X.K ρ' H' env' σ' ∧ OkS X.K ρ' H' W D (forGo g b (items.drop i) env' M'), ⟨items.length, by simp, Nat.zero_le _, ρ1, M1, env, R1, Stp.refl (K := X.K) (M := M1), E1, by rw [List.drop_zero]; exact q1⟩, ?_⟩
  rintro i m σ' H' ⟨rfl, hi', ρ', M', env', R', S', E', ok'⟩
  by_cases hlt : i < items.length
  · have hx : items[i]? = some items[i] := List.getElem?_eq_getElem hlt
    rw [drop_cons hx] at ok'
    refine .inr ⟨wk'.goes i ρ' M' H' hlt R' (S'.tr R1) (S'.fk R1), fun σ2 H2 => i + 1 ≤ items.length ∧ ∃ ρ2 M2 env2, Rel X.K ρ2 M2 H2 ∧ Stp ρ1 H1 ρ2 H2 ∧ EnR X.K ρ2 H2 env2 σ2 ∧ OkS X.K ρ2 H2 W D (forGo g b (items.drop (i + 1)) env2 M2), fun σ2 H2 p => ⟨items.length - (i + 1), by omega, rfl, p.1, p.2⟩, fun x H2 y => ?_⟩
    obtain ⟨R2, S2, dx⟩ := wk'.yields i ρ' M' H' x H2 items[i] hx R' (S'.tr R1) (S'.fk R1) y
    have okc := ok'.step S2
    unfold forGo at okc
    cases hgx : g items[i] env' with
    | none => rw [hgx] at okc; exact okc.elim
    | some env2 =>
      rw [hgx] at okc
      simp only at okc
      refine ⟨ρ', M', items[i], env', env2, R2, E'.step R' S2, dx, hgx, fun σ2 E2 _ _ => ⟨ρ', M', env2, R2, E2, ?_⟩⟩
      cases hb1 : b env2 M' with
      | nx e3 M3 =>
        rw [hb1] at okc
        exact fun ρ3 H3 σ3 S3 R3 E3 => ⟨hlt, ρ3, M3, e3, R3, (S'.trans S2).trans S3, E3, okc.step S3⟩
      | ct e3 M3 =>
        rw [hb1] at okc
        exact fun ρ3 H3 σ3 S3 R3 E3 => ⟨hlt, ρ3, M3, e3, R3, (S'.trans S2).trans S3, E3, okc.step S3⟩
      | bk e3 M3 => rw [hb1] at okc; exact okc
      | ret d M3 => rw [hb1] at okc; exact okc
      | exc c fs e3 M3 => rw [hb1] at okc; exact okc
      | err => rw [hb1] at okc; exact okc
  · have e : i = items.length := by omega
    subst e
    rw [List.drop_length] at ok'
    exact .inl ⟨wk'.stops ρ' M' H' R' (S'.tr R1) (S'.fk R1), ok' ρ' H' σ' (Stp.refl (K := X.K) (M := M')) R' E'⟩
def whGo (c : MT) (b : MS) : Nat → MS
  | 0, _, _ => .err
  | n + 1, env, M => andS (c env M) env fun k M1 => if k = true then match b env M1 with
      | .nx e2 M2 => whGo c b n e2 M2
      | .ct e2 M2 => whGo c b n e2 M2
      | .bk e2 M2 => .nx e2 M2
      | .ret d M2 => .ret d M2
      | .exc c fs e2 M2 => .exc c fs e2 M2
      | .err => .err
    else .nx env M1
def cWh (n : Nat) (c : MT) (b : MS) : MS := whGo c b n
theorem c_wh (n : Nat) {c : Expr} {body : List Stmt} {pos : Pos} {mc : MT} {b : MS} (hp : PassesOwn (model X.prog X.w) X.A X.env X.xe) (hc : ST X W c mc) (hb : SB X W body b) : SS X W (.While c body [] pos) (cWh n mc b) := by
  refine ps_imp (ps_while hp hc hb) fun D σ H q => ?_
  obtain ⟨ρ, M, env, Rl, E, q⟩ := q
  refine ⟨fun m σ' H' => ∃ ρ' M' env', Rel X.K ρ' M' H' ∧ EnR X.K ρ' H' env' σ' ∧ OkS X.K ρ' H' W D (whGo mc b m env' M'), ⟨n, ρ, M, env, Rl, E, q⟩, ?_⟩
  rintro m σ' H' ⟨ρ', M', env', R', E', ok'⟩
  cases m with
  | zero => exact ok'.elim
  | succ m =>
    unfold whGo at ok'
    refine andS_tm R' E' ok' fun k M1 ρ1 H1 v R1 E1 dv q1 => ?_
    cases (show k = v from dv)
    cases k with
    | false => exact q1 ρ1 H1 σ' (Stp.refl (K := X.K) (M := M1)) R1 E1
    | true =>
      show (if true = true then _ else _)
      rw [if_pos rfl]
      have q1 : OkS X.K ρ1 H1 W D (match b env' M1 with
        | .nx e2 M2 => whGo mc b m e2 M2
        | .ct e2 M2 => whGo mc b m e2 M2
        | .bk e2 M2 => .nx e2 M2
        | .ret d M2 => .ret d M2
        | .exc c fs e2 M2 => .exc c fs e2 M2
        | .err => .err) := q1
      refine ⟨fun σ2 H2 => ∃ ρ2 M2 env2, Rel X.K ρ2 M2 H2 ∧ EnR X.K ρ2 H2 env2 σ2 ∧ OkS X.K ρ2 H2 W D (whGo mc b m env2 M2), fun σ2 H2 p => ⟨m, Nat.lt_succ_self _, p⟩, ⟨ρ1, M1, env', R1, E1, ?_⟩⟩
      cases hb1 : b env' M1 with
      | nx e3 M3 =>
        rw [hb1] at q1
        exact fun ρ3 H3 σ3 S3 R3 E3 => ⟨ρ3, M3, e3, R3, E3, OkS.step S3 q1⟩
      | ct e3 M3 =>
        rw [hb1] at q1
        exact fun ρ3 H3 σ3 S3 R3 E3 => ⟨ρ3, M3, e3, R3, E3, OkS.step S3 q1⟩
      | bk e3 M3 => rw [hb1] at q1; exact q1
      | ret d M3 => rw [hb1] at q1; exact q1
      | exc c fs e3 M3 => rw [hb1] at q1; exact q1
      | err => rw [hb1] at q1; exact q1
end
end Mi

end

section
/-! Mi, tenth part: defs, what they promise, their calls. No text is being shown while they run. -/
namespace Mi
open PySem PySem.Spec PyProof.Rows L2

/-- a promise that is kept wherever nothing is being shown -/
structure FnG (P : Program) (w : World) (K : PySem.W.Frag) (mg : Str → Option Value) (base : Heap) (k : Nat) (f : Addr) (fd : FuncData) (ps : List Str) (sp : Sp) : Prop where
  len : ∀ vs H Q E, sp vs H Q E → vs.length = ps.length
  go : ∀ (A : Around) (outer : List Env) (s : Shared) (H : Hp) (args : Args) (us : List Value) (vs : List V) (Q : VK) (E : XK), Room k A → A.guards = some [] → Env0 P w K mg base A outer s H →
    BindsTo s fd args (ps.zip us) → Vals vs us → sp vs H Q E → codeAny (model P w) A (.call (.ref f) args) (CR (L2.CX P w) outer P w H s Q E) s
section
variable {P : Program} {w : World} {K : PySem.W.Frag} {mg : Str → Option Value} {base : Heap}
theorem FnG.mono {j k : Nat} {f : Addr} {fd : FuncData} {ps : List Str} {sp : Sp} (F : FnG P w K mg base j f fd ps sp) (h : j ≤ k) : FnG P w K mg base k f fd ps sp :=
  ⟨F.len, fun A outer s H args us vs Q E r => F.go A outer s H args us vs Q E (r.mono h)⟩
/-- by its body -/
theorem fng_of {k : Nat} {f : Addr} {x qual : Str} {params : Arguments} {body : List Stmt} {sc : Scope} {dvs : List V} {kws : List (Str × V)} {fd : FuncData} {N ps : List Str} {sp : Sp} (F : FunD K x qual params body sc dvs kws f fd) (S : FnScope N ps sc)
    (ln : ∀ vs H Q E, sp vs H Q E → vs.length = ps.length)
    (hb : ∀ (cdv : Value) (A : Around) (outer : List Env) (s : Shared) (H : Hp) (vs : List V) (Q : VK) (E : XK), Room k (A.deeper (envOfC qual sc s.heap.objs.size f cdv)) → A.guards = some [] → sp vs H Q E →
      ∃ t, PSs (cxOf (L2.CX P w) P w K mg base N qual sc f cdv A outer s H E) body t ∧ t { nx := fun _ H' => Q .non H', rt := Q } (start N vs) H) : FnG P w K mg base (k + 1) f fd ps sp := by
  obtain ⟨oc, od, dV, kV, doc, pm, an, cdv, ct, osl, rfl, lk, hcd, _, _⟩ := F.ex
  refine ⟨ln, fun A outer s H args us vs Q E rm gd e0 bt r hq => ?_⟩
  have inK : K.In s.heap := e0.mod.kin.keeps fun b o e => (e0.bs b o e).1
  have lmt : s.heap.NoLimit := e0.mod.nolimit.keeps fun b o e => (e0.bs b o e).1
  have par : ∀ y ∈ ps.zip us, sc.names.lookup y.1 = some .local ∨ (sc.names.lookup y.1 = some .cell ∧ ((cellsFrom (s.heap.objs.size + 1) sc.names []).lookup y.1).isSome = true) := by
    rintro ⟨n, v⟩ hy
    rcases S.par n (List.of_mem_zip hy).1 with z | z
    · exact .inl z
    · exact .inr ⟨z, PySem.W.cellsFrom_some _ _ _ (.inl z)⟩
  refine codeAny_call_function rm.depth (inK _ _ lk) rfl S.co S.gen rfl (PySem.W.codeRec_of inK hcd) (bt _ _ _ _ (wpAny_newFunctionEnv_cells S.kind par fun env he s1 x => ?_))
  subst he
  refine ⟨lmt.keeps x.toInCall.keep, codeAny_func ?_⟩
  obtain ⟨t, pt, q⟩ := hb cdv A outer s H vs Q E (rm.deeper _) gd hq
  have I0 : Inv (cxOf (L2.CX P w) P w K mg base N qual sc f cdv A outer s H E) [] (start N vs) H s1 := inv_start S rm.hd e0 (ln _ _ _ _ hq) r x
  refine wpAny_mono (pt.run [] s1 _ H _ I0 q) (fun fl s' h => ?_) fun _ _ h => h
  cases fl with
  | ret u =>
    obtain ⟨v, σ', H', J, rv, q⟩ := h
    exact ⟨v, H', J.os, J.bare, J.base, J.hok, rv, q⟩
  | next =>
    obtain ⟨σ', H', J, q⟩ := h
    exact ⟨.non, H', J.os, J.bare, J.base, J.hok, rfl, q⟩
  | brk =>
    obtain ⟨_, _, _, q⟩ := h
    exact q.elim
  | cont =>
    obtain ⟨_, _, _, q⟩ := h
    exact q.elim
end
/-- the callee runs; what it lets out is wished for -/
theorem run_g {X : Cx} {W : WX} {k : Nat} {f : Addr} {fd : FuncData} {ps : List Str} {sp : Sp} {pins : List (Addr × Obj)} {σ : L2.St} {H : Hp} {s : Shared} {Q : VK} {us zs : List Value} {kw : List (Str × Value)} {vs : List V} (F : FnG X.prog X.w X.K X.mg X.base k f fd ps sp)
    (rm : Room k X.A) (gd : X.A.guards = some []) (tk : Takes X W) (I : Inv X pins σ H s) (bt : BindsTo s fd ⟨us, kw⟩ (ps.zip zs)) (r : Vals vs zs) (h : sp vs H Q (fun c d H' => W c d σ H')) :
    wpAny (model X.prog X.w) X.A (call (.ref f) us kw) (EP X pins σ Q) X.xe s := by
  refine wpAny_call (codeAny_mono (F.go X.A X.stack s H ⟨us, kw⟩ zs vs Q _ rm gd I.env0 bt r h) fun res s' hq => ?_)
  cases res with
  | error e => exact tk e s' (XE.of_call I (fun _ _ _ z => z) hq)
  | ok fl =>
    cases fl with
    | ret u => exact I.after hq
    | next => exact hq.elim
    | brk => exact hq.elim
    | cont => exact hq.elim

/-! ### a def as a function on data -/
abbrev MF := List D → MH → R D
def spM (K : PySem.W.Frag) (n : Nat) (m : MF) : Sp := fun vs H Q E => vs.length = n ∧ ∃ ρ M ds, Rel K ρ M H ∧ Dens K ρ H ds vs ∧ Ok K ρ H (DnD K) (fun c d H' => E c d H') Q (m ds M)
/-- a body with so many slots -/
def mFn (n : Nat) (b : MS) : MF := fun ds M => match b (ds.map some ++ List.replicate (n - ds.length) none) M with
  | .nx _ M' => .ok .non M'
  | .ret d M' => .ok d M'
  | .exc c fs _ M' => .exc c fs M'
  | _ => .err
theorem en_start {K : PySem.W.Frag} {ρ : Rho} {H : Hp} {N : List Str} {ds : List D} {vs : List V} (h : Dens K ρ H ds vs) : EnR K ρ H (ds.map some ++ List.replicate (N.length - ds.length) none) (L2.start N vs) := by
  have hl := h.length
  refine ⟨by unfold L2.start; rw [List.length_append, List.length_append, List.length_map, List.length_map, List.length_replicate, List.length_replicate, hl], fun i d e => ?_⟩
  unfold L2.start
  by_cases hi : i < ds.length
  · rw [List.getElem?_append_left (by simpa using hi), List.getElem?_map] at e
    obtain ⟨d', h1, h2⟩ := Option.map_eq_some_iff.mp e
    cases h2
    obtain ⟨v, g1, g2⟩ := h.get h1
    refine ⟨v, ?_, g2⟩
    rw [List.getElem?_append_left (by simpa [← hl] using hi), List.getElem?_map, g1]
    rfl
  · rw [List.getElem?_append_right (by simpa using hi), List.getElem?_replicate] at e
    split at e <;> cases e
/-- a def of the text that is m -/
structure Fm (P : Program) (w : World) (K : PySem.W.Frag) (mg : Str → Option Value) (base : Heap) (k : Nat) (x : Str) (st : Stmt) (dvs : List V) (kws : List (Str × V)) (ps : List Str) (m : MF) : Prop where
  ex : ∃ f fd, mg x = some (.ref f) ∧ FunD K x x (defArgs st) (defBody st) (defScope st) dvs kws f fd ∧ FnG P w K mg base k f fd ps (spM K ps.length m)
theorem Fm.mono {P : Program} {w : World} {K : PySem.W.Frag} {mg : Str → Option Value} {base : Heap} {j k : Nat} {x : Str} {st : Stmt} {dvs : List V} {kws : List (Str × V)} {ps : List Str} {m : MF} (F : Fm P w K mg base j x st dvs kws ps m) (h : j ≤ k) : Fm P w K mg base k x st dvs kws ps m :=
  let ⟨f, fd, a, b, c⟩ := F.ex; ⟨f, fd, a, b, c.mono h⟩
/-- where a def of the text stands -/
def At (K : PySem.W.Frag) (mg : Str → Option Value) (x : Str) (st : Stmt) (dvs : List V) (kws : List (Str × V)) : Prop := ∃ f fd, mg x = some (.ref f) ∧ FunD K x x (defArgs st) (defBody st) (defScope st) dvs kws f fd
theorem fm_of {P : Program} {w : World} {K : PySem.W.Frag} {mg : Str → Option Value} {base : Heap} {k : Nat} {x : Str} {st : Stmt} {dvs : List V} {kws : List (Str × V)} {N ps : List Str} {b : MS} {n : Nat} (a : At K mg x st dvs kws) (S : FnScope N ps (defScope st)) (hn : N.length = n)
    (body : ∀ (X : Cx) (W : WX), X.prog = P → X.w = w → X.K = K → X.mg = mg → X.base = base → X.N = N → X.env.scope = defScope st → X.calm = true → X.fn = (fun _ => true) → Room k X.A → X.A.guards = some [] → Takes X W → X.stack = X.env :: X.outer → X.env.frame = some X.env.locals → X.ex = [] →
      PassesOwn (model X.prog X.w) X.A X.env X.xe → (∃ (qual : Str) (f : Addr) (cdv : Value) (A : Around) (outer : List Env) (s : Shared) (H : Hp) (E : XK), X = cxOf (L2.CX P w) P w K mg base N qual (defScope st) f cdv A outer s H E) → SB X W (defBody st) b) :
    Fm P w K mg base (k + 1) x st dvs kws ps (mFn n b) := by
  obtain ⟨f, fd, hm, F⟩ := a
  refine ⟨f, fd, hm, F, fng_of F S (fun vs H Q E h => h.1) fun cdv A outer s H vs Q E rm gd h => ?_⟩
  obtain ⟨hl, ρ, M, ds, Rl, dd, ok⟩ := h
  have hb := body (cxOf (L2.CX P w) P w K mg base N x (defScope st) f cdv A outer s H E) (fun cls d _ H => E cls d H) rfl rfl rfl rfl rfl rfl rfl rfl rfl rm gd (takes_of rfl rfl rfl rfl) rfl rfl rfl (passes_of rfl) ⟨x, f, cdv, A, outer, s, H, E, rfl⟩
  refine ⟨_, hb, ρ, M, ds.map some ++ List.replicate (n - ds.length) none, Rl, by rw [← hn]; exact en_start dd, ?_⟩
  unfold mFn at ok
  cases e : b (ds.map some ++ List.replicate (n - ds.length) none) M with
  | nx env M1 =>
    rw [e] at ok
    exact fun ρ1 H1 σ1 S1 R1 E1 => ok ρ1 H1 .non S1 R1 (den_non.mpr rfl)
  | ret d M1 => rw [e] at ok; exact ok
  | bk env M1 => rw [e] at ok; exact ok.elim
  | ct env M1 => rw [e] at ok; exact ok.elim
  | exc c fs env M1 =>
    rw [e] at ok
    exact fun ρ1 H1 d σ1 cv cn S1 R1 x1 _ => ok ρ1 H1 d cv cn S1 R1 x1
  | err => rw [e] at ok; exact ok.elim

/-! ### how arguments come to parameters -/
inductive Src where
  | p (i : Nat)
  | k (i : Nat)
  | d (i : Nat)
def pick {α : Type} (us ds ws : List α) : Src → Option α
  | .p i => us[i]?
  | .k i => ws[i]?
  | .d i => ds[i]?
def picks {α : Type} (us ds ws : List α) : List Src → Option (List α)
  | [] => some []
  | c :: cs => (pick us ds ws c).bind fun x => (picks us ds ws cs).map fun xs => x :: xs
theorem Paired.at {α β : Type} {F : α → β → Prop} {xs : List α} {ys : List β} (h : Paired F xs ys) {i : Nat} {x : α} (e : xs[i]? = some x) : ∃ y, ys[i]? = some y ∧ F x y := by
  induction h generalizing i with
  | nil => cases e
  | cons r _ ih =>
    cases i with
    | zero => cases e; exact ⟨_, rfl, r⟩
    | succ i => exact ih (i := i) e
theorem picks_rel {α β : Type} {F : α → β → Prop} {us ds ws : List α} {us' ds' ws' : List β} (h1 : Paired F us us') (h2 : Paired F ds ds') (h3 : Paired F ws ws') : ∀ {cs : List Src} {zs : List α}, picks us ds ws cs = some zs → ∃ zs', picks us' ds' ws' cs = some zs' ∧ Paired F zs zs'
  | [], zs, e => by cases e; exact ⟨[], rfl, .nil⟩
  | c :: cs, zs, e => by
    obtain ⟨x, e1, e2⟩ := Option.bind_eq_some_iff.mp e
    obtain ⟨xs, e3, e4⟩ := Option.map_eq_some_iff.mp e2
    subst e4
    obtain ⟨xs', g1, g2⟩ := picks_rel h1 h2 h3 e3
    have : ∃ y, pick us' ds' ws' c = some y ∧ F x y := by
      cases c with
      | p i => exact Paired.at h1 e1
      | k i => exact Paired.at h3 e1
      | d i => exact Paired.at h2 e1
    obtain ⟨y, g3, g4⟩ := this
    refine ⟨y :: xs', ?_, .cons g4 g2⟩
    show (pick us' ds' ws' c).bind _ = _
    rw [g3]
    show (picks us' ds' ws' cs).map _ = _
    rw [g1]
    rfl
theorem picks_len {α : Type} {us ds ws : List α} : ∀ {cs : List Src} {zs : List α}, picks us ds ws cs = some zs → zs.length = cs.length
  | [], zs, e => by cases e; rfl
  | c :: cs, zs, e => by
    obtain ⟨x, e1, e2⟩ := Option.bind_eq_some_iff.mp e
    obtain ⟨xs, e3, e4⟩ := Option.map_eq_some_iff.mp e2
    subst e4
    rw [List.length_cons, picks_len e3, List.length_cons]
/-- the defaults that fill up, and where each parameter comes from -/
def Bd (K : PySem.W.Frag) (fd : FuncData) (ps : List Str) (n : Nat) (ks : List Str) (dv : List V) (cs : List Src) : Prop :=
  ∃ mv : List Value, Vals dv mv ∧ ∀ (s : Shared) (us ws : List Value), K.In s.heap → us.length = n → ws.length = ks.length → ∃ zs, picks us mv ws cs = some zs ∧ BindsTo s fd ⟨us, ks.zip ws⟩ (ps.zip zs)
section
variable {K : PySem.W.Frag} {x qual : Str} {params : Arguments} {body : List Stmt} {scope : Scope} {kws : List (Str × V)} {f : Addr} {fd : FuncData} {ps ks : List Str} {n : Nat} {cs : List Src}
/-- nothing lacks -/
theorem bd_all (F : FunD K x qual params body scope [] kws f fd)
    (h : ∀ (kV doc pm : Value) (an : Option Addr) (cdv ct : Value) (us ws : List Value), us.length = n → ws.length = ks.length → ∃ zs, picks us [] ws cs = some zs ∧ bindArgs (PySem.W.fnOf x qual params body scope .none kV doc pm an cdv ct) ⟨us, ks.zip ws⟩ = pure (ps.zip zs)) : Bd K fd ps n ks [] cs := by
  obtain ⟨oc, od, dV, kV, doc, pm, an, cdv, ct, osl, rfl, lk, hcd, hD, hK⟩ := F.ex
  rcases hD with ⟨_, rfl⟩ | ⟨e, _⟩
  · refine ⟨[], .nil, fun s us ws X h1 h2 => ?_⟩
    obtain ⟨zs, e1, e2⟩ := h kV doc pm an cdv ct us ws h1 h2
    exact ⟨zs, e1, .of_eq e2⟩
  · exact absurd rfl e
/-- keyword-only ones lack: ms -/
theorem bd_kw (F : FunD K x qual params body scope [] kws f fd) (ms : List (Str × V)) (hm : ∀ q ∈ ms, q ∈ kws) (hk : kws ≠ [])
    (h : ∀ (Dk : Addr) (doc pm : Value) (an : Option Addr) (cdv ct : Value) (us ws mv : List Value), us.length = n → ws.length = ks.length → mv.length = ms.length →
      ∃ zs, picks us mv ws cs = some zs ∧ KwChain Dk ((ms.map (·.1)).zip mv) (bindArgs (PySem.W.fnOf x qual params body scope .none (.ref Dk) doc pm an cdv ct) ⟨us, ks.zip ws⟩) (ps.zip zs)) : Bd K fd ps n ks (ms.map (·.2)) cs := by
  obtain ⟨oc, od, dV, kV, doc, pm, an, cdv, ct, osl, rfl, lk, hcd, hD, hK⟩ := F.ex
  rcases hD with ⟨_, rfl⟩ | ⟨e, _⟩
  · rcases hK with e | ⟨Dk, rfl, hq⟩
    · exact absurd e hk
    · obtain ⟨mv, hl, rk, hv⟩ := kwd_vals (ms := ms) fun q hq' => hq q (hm q hq')
      refine ⟨mv, rk, fun s us ws X h1 h2 => ?_⟩
      obtain ⟨zs, e1, e2⟩ := h Dk doc pm an cdv ct us ws mv h1 h2 hl
      exact ⟨zs, e1, BindsTo.of_looks fun M => KwChain.looks X hv e2⟩
  · exact absurd rfl e
end

/-! ### calls -/
def FixS (K : PySem.W.Frag) (ds : List D) (vs : List V) : Prop := ∀ ρ H, Dens K ρ H ds vs
def SK (X : Cx) (W : WX) (kws : List Keyword) (m : MA) : Prop := PK X kws (tm X.K (DnA X.K) W m)
section
variable {X : Cx} {W : WX}
theorem k_nil : SK X W [] aNil := ⟨fun pos pins s σ H Q I h => pk_nil.run pos pins s σ H Q I (by
  obtain ⟨ρ, M, env, Rl, E, h⟩ := h
  exact h ρ H [] (Stp.refl (K := X.K) (M := M)) Rl (dens_nil.mpr rfl))⟩
theorem k_cons {nm : Option Str} {kpos : Pos} {e : Expr} {kws : List Keyword} {m : ME} {r : MA} (h1 : SE X W e m) (h2 : SK X W kws r) : SK X W (⟨nm, e, kpos⟩ :: kws) (aCons m r) :=
  ⟨fun pos pins s σ H Q I h => (pk_cons h1 h2).run pos pins s σ H Q I (by
    refine tm_bind (f := fun d env M1 => (r env M1).bind fun ds M2 => .ok (d :: ds) M2) h fun d M1 ρ1 H1 v env R1 E1 dv h => ?_
    refine ⟨ρ1, M1, env, R1, E1, h.bind fun ds M2 ρ2 H2 vs _ S R2 dd h => ?_⟩
    exact h ρ2 H2 (v :: vs) (Stp.refl (K := X.K) (M := M2)) R2 (dens_cons.mpr ⟨v, vs, rfl, Den.step R1 S _ _ dv, dd⟩))⟩
/-- the values are there: the def runs -/
theorem call_g {k : Nat} {f : Addr} {fd : FuncData} {ps ks : List Str} {n : Nat} {m : MF} {cs : List Src} {dv : List V} {dd : List D} {pins : List (Addr × Obj)} {σ : L2.St} {H : Hp} {s : Shared} {Q : VK} {us ws : List Value} {vs xs : List V} {ρ : Rho} {M : MH} {ds es : List D}
    (F : FnG X.prog X.w X.K X.mg X.base k f fd ps (spM X.K ps.length m)) (rm : Room k X.A) (gd : X.A.guards = some []) (tk : Takes X W) (bd : Bd X.K fd ps n ks dv cs) (fx : FixS X.K dd dv) (I : Inv X pins σ H s) (Rl : Rel X.K ρ M H) (r : Vals vs us) (r2 : Vals xs ws)
    (d1 : Dens X.K ρ H ds vs) (d2 : Dens X.K ρ H es xs) (hn : ds.length = n) (hk : es.length = ks.length) (hc : cs.length = ps.length)
    (h : Ok X.K ρ H (DnD X.K) (fun c d H' => W c d σ H') Q (match picks ds dd es cs with | some zs => m zs M | none => .err)) : wpAny (model X.prog X.w) X.A (call (.ref f) us (ks.zip ws)) (EP X pins σ Q) X.xe s := by
  obtain ⟨mv, rm', hb⟩ := bd
  obtain ⟨zs, e1, e2⟩ := hb s us ws I.kIn (by rw [← r.length, ← d1.length]; exact hn) (by rw [← r2.length, ← d2.length]; exact hk)
  cases e : picks ds dd es cs with
  | none => rw [e] at h; exact h.elim
  | some ys =>
    rw [e] at h
    obtain ⟨yv, g1, g2⟩ := picks_rel (dens_iff.mp d1) (dens_iff.mp (fx ρ H)) (dens_iff.mp d2) e
    obtain ⟨yu, g3, g4⟩ := picks_rel r rm' r2 g1
    rw [e1] at g3
    cases g3
    exact run_g F rm gd tk I e2 g4 ⟨(picks_len g1).trans hc, ρ, M, ys, Rl, dens_iff.mpr g2, h⟩
end
end Mi

end

section
/-! Mi, eleventh part: calls of the text's defs, of built-ins, of types. -/
namespace Mi
open PySem PySem.Spec PyProof.Rows L2

/-- what a def's body may lean on -/
structure Cg (X : Cx) (W : WX) (k : Nat) : Prop where
  rm : Room k X.A
  gd : X.A.guards = some []
  tk : Takes X W
theorem Cg.cf {X : Cx} {W : WX} {k : Nat} (c : Cg X W k) : Cf X := ⟨by have := c.rm.un; omega, c.gd⟩
theorem Cg.mono {X : Cx} {W : WX} {j k : Nat} (c : Cg X W k) (h : j ≤ k) : Cg X W j := ⟨c.rm.mono h, c.gd, c.tk⟩

/-! ### dead rows -/
def mErr : ME := fun _ _ => .err
def cErr : MS := fun _ _ => .err
section
variable {X : Cx} {W : WX}
theorem s_err {e : Expr} : SE X W e mErr := ⟨fun pins s σ H Q I h => by
  obtain ⟨ρ, M, env, Rl, E, h⟩ := h
  exact h.elim⟩
theorem c_err {st : Stmt} : SS X W st cErr := ⟨fun pins s σ H D I h => by
  obtain ⟨ρ, M, env, Rl, E, h⟩ := h
  exact h.elim⟩
end

/-! ### calls of defs -/
/-- what a def does with what a call gives -/
def callM (f : MF) (n nk : Nat) (cs : List Src) (dd us ws : List D) (M : MH) : R D := if us.length = n ∧ ws.length = nk then (match picks us dd ws cs with | some zs => f zs M | none => .err) else .err
def mCall (f : MF) (n nk : Nat) (cs : List Src) (dd : List D) (a b : MA) : ME := fun env M => (a env M).bind fun us M1 => (b env M1).bind fun ws M2 => callM f n nk cs dd us ws M2
section
variable {X : Cx} {W : WX} {k j : Nat} {x : Str} {st : Stmt} {dvs : List V} {kws : List (Str × V)} {ps ks : List Str} {m : MF} {n : Nat} {cs : List Src} {dv : List V} {dd : List D} {p pos : Pos} {e : Expr} {es : List Expr} {kw : List Keyword} {ma mb : MA}
abbrev Bds (X : Cx) (x : Str) (st : Stmt) (dvs : List V) (kws : List (Str × V)) (ps : List Str) (n : Nat) (ks : List Str) (dv : List V) (cs : List Src) : Prop :=
  ∀ f fd, FunD X.K x x (defArgs st) (defBody st) (defScope st) dvs kws f fd → Bd X.K fd ps n ks dv cs
theorem call_m {f : Addr} {fd : FuncData} {pins : List (Addr × Obj)} {σ : L2.St} {H : Hp} {s : Shared} {Q : VK} {us ws : List Value} {vs xs : List V} {ρ : Rho} {M : MH} {ds es : List D}
    (F : FnG X.prog X.w X.K X.mg X.base j f fd ps (spM X.K ps.length m)) (c : Cg X W k) (hj : j ≤ k) (bd : Bd X.K fd ps n ks dv cs) (fx : FixS X.K dd dv) (hc : cs.length = ps.length) (I : Inv X pins σ H s) (Rl : Rel X.K ρ M H) (r : Vals vs us) (r2 : Vals xs ws)
    (d1 : Dens X.K ρ H ds vs) (d2 : Dens X.K ρ H es xs)
    (h : Ok X.K ρ H (DnD X.K) (fun c d H' => W c d σ H') Q (callM m n ks.length cs dd ds es M)) : wpAny (model X.prog X.w) X.A (call (.ref f) us (ks.zip ws)) (EP X pins σ Q) X.xe s := by
  unfold callM at h
  split at h
  case isTrue g => exact call_g F (c.rm.mono hj) c.gd c.tk bd fx I Rl r r2 d1 d2 g.1 g.2 hc h
  case isFalse => exact h.elim
theorem s_call (F : Fm X.prog X.w X.K X.mg X.base j x st dvs kws ps m) (c : Cg X W k) (hj : j ≤ k) (bd : Bds X x st dvs kws ps n [] dv cs) (fx : FixS X.K dd dv) (ha : SA X W (e :: es) ma) (hg : Gl X x := by rfl) (hc : cs.length = ps.length := by rfl)
    (hdb : (x == ("__debug__" : Str)) = false := by decide) (he : starEach (e :: es) X.env = (false, eval e X.env) :: starEach es X.env := by rfl) (hpl : (backTo pos (starEach es X.env)).any (·.1) = false := by rfl) :
    SE X W (.Call (.Name x p) (e :: es) [] pos) (mCall m n 0 cs dd ma aNil) := by
  obtain ⟨f, fd, hm, F, G⟩ := F.ex
  refine ⟨fun pins s σ H Q I h => ?_⟩
  refine wpAny_Call_Name_kw (ld_glob I hg hm ?_ hdb)
  refine PySem.W.callWith_K (h₀ := X.base) I.ok.mod.kin F.kp (thn (ha.run pos pins s σ H (fun vs H1 => ∃ ρ M ds, Rel X.K ρ M H1 ∧ Dens X.K ρ H1 ds vs ∧ Ok X.K ρ H1 (DnD X.K) (fun c d H' => W c d σ H') Q (callM m n 0 cs dd ds [] M)) I ?_)
    fun us s1 ⟨vs, H1, I1, r, ρ, M, ds, Rl, d1, q⟩ => ⟨I1.kIn, ?_⟩) he hpl
  · refine tm_bind (f := fun ds env M1 => (aNil env M1).bind fun ws M2 => callM m n 0 cs dd ds ws M2) h fun ds M1 ρ1 H1 vs env R1 E1 d1 q => ⟨ρ1, M1, ds, R1, d1, q⟩
  · exact call_m (ks := []) (ws := []) (xs := []) (es := []) G c hj (bd f fd F) fx hc I1 Rl r .nil d1 (dens_nil.mpr rfl) q
theorem s_call0 (F : Fm X.prog X.w X.K X.mg X.base j x st dvs kws ps m) (c : Cg X W k) (hj : j ≤ k) (bd : Bds X x st dvs kws ps 0 [] dv cs) (fx : FixS X.K dd dv) (hg : Gl X x := by rfl) (hc : cs.length = ps.length := by rfl)
    (hdb : (x == ("__debug__" : Str)) = false := by decide) :
    SE X W (.Call (.Name x p) [] [] pos) (mCall m 0 0 cs dd aNil aNil) := by
  obtain ⟨f, fd, hm, F, G⟩ := F.ex
  refine ⟨fun pins s σ H Q I h => ?_⟩
  refine wpAny_Call_Name_kw (ld_glob I hg hm ?_ hdb)
  obtain ⟨ρ, M, env, Rl, E, h⟩ := h
  exact PySem.W.callWith_K0 I.kIn F.kp (call_m (ks := []) (us := []) (vs := []) (ds := []) (ws := []) (xs := []) (es := []) G c hj (bd f fd F) fx hc I Rl .nil .nil (dens_nil.mpr rfl) (dens_nil.mpr rfl) h)
theorem s_callK (F : Fm X.prog X.w X.K X.mg X.base j x st dvs kws ps m) (c : Cg X W k) (hj : j ≤ k) (bd : Bds X x st dvs kws ps n ks dv cs) (fx : FixS X.K dd dv) (ha : SA X W (e :: es) ma) (hk : SK X W kw mb) (hks : (backToKw pos (keywordEach kw X.env)).filterMap (·.1) = ks := by rfl) (hg : Gl X x := by rfl) (hc : cs.length = ps.length := by rfl)
    (hall : (backToKw pos (keywordEach kw X.env)).all (·.1.isSome) = true := by rfl)
    (hdb : (x == ("__debug__" : Str)) = false := by decide) (he : starEach (e :: es) X.env = (false, eval e X.env) :: starEach es X.env := by rfl)
    (hpl : ((backTo pos (starEach (e :: es) X.env)).any (·.1) || (backToKw pos (keywordEach kw X.env)).any (·.1.isNone)) = false := by rfl) :
    SE X W (.Call (.Name x p) (e :: es) kw pos) (mCall m n ks.length cs dd ma mb) := by
  obtain ⟨f, fd, hm, F, G⟩ := F.ex
  refine ⟨fun pins s σ H Q I h => ?_⟩
  refine wpAny_Call_Name_kw (ld_glob I hg hm ?_ hdb)
  refine PySem.W.callWith_KW (h₀ := X.base) I.ok.mod.kin F.kp hall (thn (ha.run pos pins s σ H (fun vs H1 => ∃ ρ M env ds, Rel X.K ρ M H1 ∧ EnR X.K ρ H1 env σ ∧ Dens X.K ρ H1 ds vs ∧ Ok X.K ρ H1 (DnD X.K) (fun c d H' => W c d σ H') Q ((mb env M).bind fun ws M2 => callM m n ks.length cs dd ds ws M2)) I ?_)
    fun us s1 ⟨vs, H1, I1, r, ρ, M, env, ds, Rl, E, d1, q⟩ => ?_) hpl he
  · refine tm_bind (f := fun ds env M1 => (mb env M1).bind fun ws M2 => callM m n ks.length cs dd ds ws M2) h fun ds M1 ρ1 H1 vs env R1 E1 d1 q => ⟨ρ1, M1, env, ds, R1, E1, d1, q⟩
  · refine thn (hk.run pos pins s1 σ H1 (fun xs H2 => ∃ ρ2 M2 es, Rel X.K ρ2 M2 H2 ∧ Dens X.K ρ2 H2 ds vs ∧ Dens X.K ρ2 H2 es xs ∧ Ok X.K ρ2 H2 (DnD X.K) (fun c d H' => W c d σ H') Q (callM m n ks.length cs dd ds es M2)) I1 ?_) fun ws s2 ⟨xs, H2, I2, r2, ρ2, M2, es2, R2, d1', d2, q2⟩ => ⟨I2.kIn, ?_⟩
    · exact ⟨ρ, M, env, Rl, E, q.bind fun es2 M2 ρ2 H2 xs _ S R2 d2 q2 => ⟨ρ2, M2, es2, R2, Dens.step Rl S _ _ d1, d2, q2⟩⟩
    · rw [hks]
      exact call_m G c hj (bd f fd F) fx hc I2 R2 r r2 d1' d2 q2
theorem s_callK0 (F : Fm X.prog X.w X.K X.mg X.base j x st dvs kws ps m) (c : Cg X W k) (hj : j ≤ k) (bd : Bds X x st dvs kws ps 0 ks dv cs) (fx : FixS X.K dd dv) (hk : SK X W kw mb) (hks : (backToKw pos (keywordEach kw X.env)).filterMap (·.1) = ks := by rfl) (hg : Gl X x := by rfl) (hc : cs.length = ps.length := by rfl)
    (hall : (backToKw pos (keywordEach kw X.env)).all (·.1.isSome) = true := by rfl)
    (hdb : (x == ("__debug__" : Str)) = false := by decide)
    (hpl : ((backTo pos (starEach [] X.env)).any (·.1) || (backToKw pos (keywordEach kw X.env)).any (·.1.isNone)) = false := by rfl) :
    SE X W (.Call (.Name x p) [] kw pos) (mCall m 0 ks.length cs dd aNil mb) := by
  obtain ⟨f, fd, hm, F, G⟩ := F.ex
  refine ⟨fun pins s σ H Q I h => ?_⟩
  refine wpAny_Call_Name_kw (ld_glob I hg hm ?_ hdb)
  refine PySem.W.callWith_KW0 (h₀ := X.base) I.ok.mod.kin F.kp hall (thn (hk.run pos pins s σ H (fun xs H2 => ∃ ρ2 M2 es, Rel X.K ρ2 M2 H2 ∧ Dens X.K ρ2 H2 es xs ∧ Ok X.K ρ2 H2 (DnD X.K) (fun c d H' => W c d σ H') Q (callM m 0 ks.length cs dd [] es M2)) I ?_) fun ws s2 ⟨xs, H2, I2, r2, ρ2, M2, es2, R2, d2, q2⟩ => ⟨I2.kIn, ?_⟩) hpl
  · obtain ⟨ρ, M, env, Rl, E, h⟩ := h
    exact ⟨ρ, M, env, Rl, E, Ok.bind (f := fun es M2 => callM m 0 ks.length cs dd [] es M2) h fun es2 M2 ρ2 H2 xs _ S R2 d2 q2 => ⟨ρ2, M2, es2, R2, d2, q2⟩⟩
  · rw [hks]
    exact call_m (us := []) (vs := []) (ds := []) G c hj (bd f fd F) fx hc I2 R2 .nil r2 (dens_nil.mpr rfl) d2 q2
end

/-! ### built-ins -/
def OpNR (X : Cx) (f : Value) (g : OpN) : Prop := ∀ ρ M H xs vs Q, Rel X.K ρ M H → Dens X.K ρ H xs vs → ROk X.K ρ H Q (g xs M) → ∃ r, CallR X f r ∧ r vs H Q
def QuietN (g : OpN) : Prop := ∀ xs M c fs M', g xs M ≠ .exc c fs M'
section
variable {X : Cx} {W : WX} {x : Str} {p pos : Pos} {e : Expr} {es : List Expr} {ma : MA} {g : OpN} {id : String}
theorem mN_o {f : Value} {σ : L2.St} {H : Hp} {Q : VK} (o : OpNR X f g) (q : QuietN g) (h : tm X.K (DnD X.K) W (mN g ma) σ H Q) : tm X.K (DnA X.K) W ma σ H (fun vs H1 => ∃ r, CallR X f r ∧ r vs H1 Q) := by
  refine tm_bind (f := fun xs env M1 => g xs M1) h fun xs M1 ρ1 H1 vs env R1 E1 d1 q1 => o ρ1 M1 H1 xs vs Q R1 d1 (ok_quiet (q xs M1) q1)
theorem s_blt (o : OpNR X (.builtin id) g) (q : QuietN g) (hm : X.mg x = none) (ha : SA X W (e :: es) ma) (hg : Gl X x := by rfl) (hv : bootBuiltins x = some (.builtin id) := by rfl) (hn : x ≠ "__name__" := by decide) (hdb : (x == ("__debug__" : Str)) = false := by decide)
    (he : starEach (e :: es) X.env = (false, eval e X.env) :: starEach es X.env := by rfl) (hpl : (backTo pos (starEach es X.env)).any (·.1) = false := by rfl) : SE X W (.Call (.Name x p) (e :: es) [] pos) (mN g ma) := by
  refine ⟨fun pins s σ H Q I h => ?_⟩
  refine wpAny_Call_Name_kw (ld_blt I hg hm hv ?_ hn hdb)
  exact PyProof.Rows.callWith_builtin1 (thn (ha.run pos pins s σ H _ I (mN_o o q h)) fun us s1 ⟨vs, H1, I1, r1, r, hr, q1⟩ => hr pins s1 σ H1 vs us Q I1 r1 q1) he hpl
theorem s_bty (o : OpNR X (.type id) g) (q : QuietN g) (hm : X.mg x = none) (ha : SA X W (e :: es) ma) (hg : Gl X x := by rfl) (hv : bootBuiltins x = some (.type id) := by rfl) (hn : x ≠ "__name__" := by decide) (hdb : (x == ("__debug__" : Str)) = false := by decide)
    (he : starEach (e :: es) X.env = (false, eval e X.env) :: starEach es X.env := by rfl) (hpl : (backTo pos (starEach es X.env)).any (·.1) = false := by rfl) : SE X W (.Call (.Name x p) (e :: es) [] pos) (mN g ma) := by
  refine ⟨fun pins s σ H Q I h => ?_⟩
  refine wpAny_Call_Name_kw (ld_blt I hg hm hv ?_ hn hdb)
  exact PyProof.Rows.callWith_type1 (thn (ha.run pos pins s σ H _ I (mN_o o q h)) fun us s1 ⟨vs, H1, I1, r1, r, hr, q1⟩ => hr pins s1 σ H1 vs us Q I1 r1 q1) he hpl
/-- a built-in type's name -/
theorem s_tynm {n : String} (hm : X.mg x = none) (hg : Gl X x := by rfl) (hv : bootBuiltins x = some (.type n) := by rfl) (hn : x ≠ "__name__" := by decide) (hdb : (x == ("__debug__" : Str)) = false := by decide) : SE X W (.Name x pos) (mC (.ty n)) :=
  s_const (pe_bltn hg hm hv (show RelV (.ty n) (.type n) from rfl) hn hdb) fun _ _ => den_ty.mpr rfl
end
end Mi

end

section
/-! Mi, twelfth part: len, isinstance, tuple, abs, sum, repr; slices. -/
namespace Mi
open PySem PySem.Spec PyProof.Rows L2
section
variable {X : Cx}
/-! ### a cell's list, read -/
theorem cell_lst {K : PySem.W.Frag} {ρ : Rho} {M : MH} {H : Hp} {l : Nat} {ds : List D} {v : V} (Rl : Rel K ρ M H) (d : Den K ρ H (.ref l) v) (hm : M[l]? = some (.lst ds)) : ∃ a xs, v = .ref a ∧ H a = some (.lst xs) ∧ Dens K ρ H ds xs := by
  obtain ⟨p, o, rfl, hl, ho⟩ := den_ref.mp d
  obtain ⟨b, xs, h1, h2, h3⟩ := Rl.obj l _ hm
  rw [hl] at h1
  cases h1
  have e := ho b rfl
  subst e
  exact ⟨_, xs, rfl, h2, h3⟩
theorem dens_one {K : PySem.W.Frag} {ρ : Rho} {H : Hp} {d : D} {vs : List V} (h : Dens K ρ H [d] vs) : ∃ v, vs = [v] ∧ Den K ρ H d v := by
  obtain ⟨v, r, rfl, h1, h2⟩ := dens_cons.mp h
  rw [dens_nil] at h2
  subst h2
  exact ⟨v, rfl, h1⟩
theorem dens_two {K : PySem.W.Frag} {ρ : Rho} {H : Hp} {d e : D} {vs : List V} (h : Dens K ρ H [d, e] vs) : ∃ v w, vs = [v, w] ∧ Den K ρ H d v ∧ Den K ρ H e w := by
  obtain ⟨v, r, rfl, h1, h2⟩ := dens_cons.mp h
  obtain ⟨w, rfl, h3⟩ := dens_one h2
  exact ⟨v, w, rfl, h1, h3⟩

/-! ### len -/
def lenD : OpN := fun xs M => match xs with
  | [.tup ds] => .ok (.int ds.length) M
  | [.lst ds] => .ok (.int ds.length) M
  | [.str z] => if z.length ≤ lim then .ok (.int z.length) M else .err
  | [.ref l] => match M[l]? with
    | some (.lst ds) => .ok (.int ds.length) M
    | _ => .err
  | _ => .err
theorem q_len : QuietN lenD := by
  intro x M c fs M' e
  unfold lenD at e
  (repeat' split at e) <;> cases e
theorem o_len : OpNR X (.builtin "len") lenD := by
  intro ρ M H xs vs Q Rl dv h
  unfold lenD at h
  split at h
  · obtain ⟨v, rfl, d⟩ := dens_one dv
    obtain ⟨a, ys, rfl, hs, hd⟩ := den_tup.mp d
    exact ⟨_, call_len_seq, a, ys, rfl, .inr hs, by rw [← hd.length]; exact here Rl h (den_int.mpr rfl)⟩
  · obtain ⟨v, rfl, d⟩ := dens_one dv
    obtain ⟨a, ys, rfl, hs, hd⟩ := den_lst.mp d
    exact ⟨_, call_len_seq, a, ys, rfl, .inl hs.sq, by rw [← hd.length]; exact here Rl h (den_int.mpr rfl)⟩
  · obtain ⟨v, rfl, d⟩ := dens_one dv
    rw [den_str] at d
    subst d
    split at h
    · rename_i z zl
      exact ⟨_, call_len_str, z, rfl, lim_le zl, here Rl h (den_int.mpr rfl)⟩
    · exact h.elim
  · obtain ⟨v, rfl, d⟩ := dens_one dv
    split at h
    · rename_i ds hm
      obtain ⟨a, ys, rfl, hs, hd⟩ := cell_lst Rl d hm
      exact ⟨_, call_len_seq, a, ys, rfl, .inl (SqL.of hs), by rw [← hd.length]; exact here Rl h (den_int.mpr rfl)⟩
    · exact h.elim
  · exact h.elim

/-! ### isinstance(x, T), T a built-in type -/
def tyName (M : MH) : D → Option String
  | .non => some "NoneType"
  | .bl _ => some "bool"
  | .int _ => some "int"
  | .str _ => some "str"
  | .tup _ => some "tuple"
  | .lst _ => some "list"
  | .dct _ _ => some "dict"
  | .ref l => match M[l]? with
    | some (.lst _) => some "list"
    | some (.dct _) => some "dict"
    | _ => none
  | _ => none
def tyNames : List String := ["NoneType", "bool", "int", "str", "tuple", "list", "dict"]
def isB (t n : String) : Bool := t == n || (t == "bool" && n == "int")
theorem isB_kit : ∀ t ∈ tyNames, ∀ n ∈ tyNames, kitB t n = some (isB t n) := by decide +kernel
theorem tyName_in {M : MH} {d : D} {t : String} (e : tyName M d = some t) : t ∈ tyNames := by
  unfold tyName at e
  split at e <;> first
    | (cases e; decide)
    | (split at e <;> first | (cases e; decide) | cases e)
    | cases e
theorem tyName_x {K : PySem.W.Frag} {ρ : Rho} {M : MH} {H : Hp} {d : D} {v : V} {t : String} (Rl : Rel K ρ M H) (dv : Den K ρ H d v) (e : tyName M d = some t) : TyX K H v (.type t) := by
  have tup : ∀ {a : Addr} {xs : List V}, SqT K H a xs → TyX K H (.ref a) (.type "tuple") := fun h => by
    rcases h with h | ⟨o, its, n, hk, hc, _⟩
    · rcases h with h | ⟨o, h⟩
      · exact .base (.tup h)
      · exact .fTuple h
    · exact .kTuple hk hc
  have lst : ∀ {a : Addr} {xs : List V}, SqL K H a xs → TyX K H (.ref a) (.type "list") := fun h => by
    rcases h with h | ⟨o, its, n, hk, hc, _⟩
    · rcases h with h | ⟨o, h⟩
      · exact .base (.lst h)
      · exact .base (.frz h)
    · exact .kList hk hc
  unfold tyName at e
  split at e
  · cases e; rw [den_non] at dv; subst dv; exact .base .non
  · cases e; rw [den_bl] at dv; subst dv; exact .base (.bl _)
  · cases e; rw [den_int] at dv; subst dv; exact .base (.int _)
  · cases e; rw [den_str] at dv; subst dv; exact .base (.str _)
  · cases e; obtain ⟨a, xs, rfl, hs, _⟩ := den_tup.mp dv; exact tup hs
  · cases e; obtain ⟨a, xs, rfl, hs, _⟩ := den_lst.mp dv; exact lst hs.sq
  · cases e
    obtain ⟨a, kvs, rfl, hs, _⟩ := den_dct.mp dv; have hs := hs.rd
    rcases hs with hs | ⟨o, hs⟩
    · exact .base (.dK hs)
    · exact .fDict hs
  · split at e
    · rename_i ds hm
      cases e
      obtain ⟨a, ys, rfl, hs, hd⟩ := cell_lst Rl dv hm
      exact .base (.lst hs)
    · rename_i kvs hm
      cases e
      obtain ⟨p, o, rfl, hl, ho⟩ := den_ref.mp dv
      obtain ⟨b, ks, h1, h2, h3⟩ := Rl.obj _ _ hm
      rw [hl] at h1
      cases h1
      have e := ho b rfl
      subst e
      exact .base (.dK h2)
    · cases e
  · cases e
def isiD : OpN := fun xs M => match xs with
  | [d, .ty n] => match tyName M d with
    | some t => if n ∈ tyNames then .ok (.bl (isB t n)) M else .err
    | none => .err
  | _ => .err
theorem q_isi : QuietN isiD := by
  intro x M c fs M' e
  unfold isiD at e
  (repeat' split at e) <;> cases e
theorem o_isi : OpNR X (.builtin "isinstance") isiD := by
  intro ρ M H xs vs Q Rl dv h
  unfold isiD at h
  split at h
  · rename_i d n
    obtain ⟨v, w, rfl, d1, d2⟩ := dens_two dv
    rw [den_ty] at d2
    subst d2
    split at h
    · rename_i t e
      split at h
      · rename_i hn
        exact ⟨_, call_isi, v, .ty n, .type t, .type n, isB t n, rfl, .ty n, tyName_x Rl d1 e, kit_ty (isB_kit t (tyName_in e) n hn), here Rl h (den_bl.mpr rfl)⟩
      · exact h.elim
    · exact h.elim
  · exact h.elim

/-! ### tuple(xs), abs(i) -/
def tupOfD : OpN := fun xs M => match xs with
  | [.tup ds] => .ok (.tup ds) M
  | [.lst ds] => .ok (.tup ds) M
  | [.ref l] => match M[l]? with
    | some (.lst ds) => .ok (.tup ds) M
    | _ => .err
  | _ => .err
theorem q_tupOf : QuietN tupOfD := by
  intro x M c fs M' e
  unfold tupOfD at e
  (repeat' split at e) <;> cases e
theorem o_tupOf : OpNR X (.type "tuple") tupOfD := by
  intro ρ M H xs vs Q Rl dv h
  unfold tupOfD at h
  split at h
  · obtain ⟨v, rfl, d⟩ := dens_one dv
    have d' := d
    obtain ⟨a, ys, rfl, hs, hd⟩ := den_tup.mp d
    exact ⟨_, call_tuple_of, a, ys, rfl, .inr ⟨hs, here Rl h d'⟩⟩
  · obtain ⟨v, rfl, d⟩ := dens_one dv
    obtain ⟨a, ys, rfl, hs, hd⟩ := den_lst.mp d
    exact ⟨_, call_tuple_of, a, ys, rfl, .inl ⟨hs.sq, newT Rl h hd⟩⟩
  · obtain ⟨v, rfl, d⟩ := dens_one dv
    split at h
    · rename_i ds hm
      obtain ⟨a, ys, rfl, hs, hd⟩ := cell_lst Rl d hm
      exact ⟨_, call_tuple_of, a, ys, rfl, .inl ⟨SqL.of hs, newT Rl h hd⟩⟩
    · exact h.elim
  · exact h.elim
def absD : OpN := fun xs M => match xs with
  | [.int i] => .ok (.int i.natAbs) M
  | _ => .err
theorem q_abs : QuietN absD := by
  intro x M c fs M' e
  unfold absD at e
  split at e <;> cases e
theorem o_abs : OpNR X (.builtin "abs") absD := by
  intro ρ M H xs vs Q Rl dv h
  unfold absD at h
  split at h
  · rename_i i
    refine ⟨_, call_abs, i, dens_ints_inv (ns := [i]) dv, ?_⟩
    have e : (if i < 0 then -i else i) = (i.natAbs : Int) := by split <;> omega
    rw [e]
    exact here Rl h (den_int.mpr rfl)
  · exact h.elim

/-! ### sum of whole numbers, in a list or a tuple -/
def intsD : List D → Option (List Int)
  | [] => some []
  | .int i :: ds => (intsD ds).map (i :: ·)
  | _ :: _ => none
theorem intsD_eq : ∀ {ds : List D} {ns : List Int}, intsD ds = some ns → ds = ns.map D.int
  | [], ns, e => by cases e; rfl
  | .int i :: ds, ns, e => by
    obtain ⟨ms, e1, e2⟩ := Option.map_eq_some_iff.mp (show (intsD ds).map (i :: ·) = some ns from e)
    subst e2
    rw [List.map_cons, intsD_eq e1]
  | .non :: _, _, e => by cases e
  | .bl _ :: _, _, e => by cases e
  | .str _ :: _, _, e => by cases e
  | .ty _ :: _, _, e => by cases e
  | .adr _ :: _, _, e => by cases e
  | .ref _ :: _, _, e => by cases e
  | .tup _ :: _, _, e => by cases e
  | .lst _ :: _, _, e => by cases e
  | .dct _ _ :: _, _, e => by cases e
  | .fn _ :: _, _, e => by cases e
  | .exo _ _ _ _ :: _, _, e => by cases e
theorem intsD_map (ns : List Int) : intsD (ns.map D.int) = some ns := by
  induction ns with
  | nil => rfl
  | cons n ns ih =>
    show (intsD (ns.map D.int)).map (n :: ·) = _
    rw [ih]
    rfl
def sumD : OpN := fun xs M => match xs with
  | [.lst ds] => match intsD ds with
    | some ns => .ok (.int ns.sum) M
    | none => .err
  | [.tup ds] => match intsD ds with
    | some ns => .ok (.int ns.sum) M
    | none => .err
  | _ => .err
theorem q_sum : QuietN sumD := by
  intro x M c fs M' e
  unfold sumD at e
  (repeat' split at e) <;> cases e
theorem sum_tup (hc : X.calm = true) : CallR X (.builtin "sum") (fun vs H Q => ∃ (a : Addr) (ns : List Int), vs = [V.ref a] ∧ SqT X.K H a (ns.map V.int) ∧ Q (.int ns.sum) H) := by
  intro pins s σ H vs us Q I r h
  obtain ⟨a, ns, rfl, hs, q⟩ := h
  obtain ⟨its, rv, ht, _⟩ := I.tuple hs
  rw [Vals.ref1 r]
  have hi : IntsAre its ns := intsAre_of rv
  obtain ⟨xs, e⟩ := hi.allInts.items
  have hn : numsOf (intItems xs).toList = ns := by rw [← e]; exact hi.numsOf
  rw [nums_intItems] at hn
  rw [e] at ht
  refine PySem.call_sum_walkG (PyProof.Rows.iter_tuple ht ?_)
  have hlt : a < s.heap.objs.size := by obtain ⟨_, e, _⟩ := ht; exact Heap.lt_size e
  have hh : X.A.in1.handled = none := I.ok.hd hc
  refine ⟨_, _, _, _, _, _, numAt xs, rfl, Walks.tuple (A := X.A.in1) hh _ a (Nat.ne_of_lt hlt) (intItems xs), ⟨⟨_, Heap.get?_push_size _ rfl, rfl, rfl⟩, ?_⟩, fun b hb => ?_, (fun _ _ => intItems_at), fun h' tk t' hk => ?_⟩
  · obtain ⟨o, e1, e2, e3⟩ := ht
    exact ⟨o, Heap.get?_push_of_some _ e1, e2, e3⟩
  · show b < (s.heap.push _).objs.size
    rw [Heap.size_push]
    rcases List.mem_cons.mp hb with e | hb
    · exact e ▸ Nat.lt_succ_self _
    · rcases List.mem_cons.mp hb with e | hb
      · exact e ▸ Nat.lt_succ_of_lt hlt
      · cases hb
  · have k : ∀ b o, s.heap.get? b = some o → h'.get? b = some o := fun b o e => by
      refine hk b o (fun hm => ?_) (Heap.get?_push_of_some _ e)
      rcases List.mem_cons.mp hm with e1 | hm
      · have z := Heap.lt_size e
        rw [e1] at z
        exact Nat.lt_irrefl _ z
      · cases hm
    refine ⟨.int _, H, I.kept k, ⟨_, rfl⟩, ?_⟩
    have e3 : preSum (numAt xs) (intItems xs).size = ns.sum := by
      rw [preSum_eq, List.take_of_length_le (by simp [intItems]), hn]
    rw [e3]
    exact q
theorem o_sum (hc : X.calm = true) : OpNR X (.builtin "sum") sumD := by
  intro ρ M H xs vs Q Rl dv h
  unfold sumD at h
  split at h
  · obtain ⟨v, rfl, d⟩ := dens_one dv
    obtain ⟨a, ys, rfl, hs, hd⟩ := den_lst.mp d
    split at h
    · rename_i ns e
      rw [intsD_eq e] at hd
      rw [dens_ints_inv hd] at hs
      exact ⟨_, cr_sum hc, a, ns, rfl, hs.sq, here Rl h (den_int.mpr rfl)⟩
    · exact h.elim
  · obtain ⟨v, rfl, d⟩ := dens_one dv
    obtain ⟨a, ys, rfl, hs, hd⟩ := den_tup.mp d
    split at h
    · rename_i ns e
      rw [intsD_eq e] at hd
      rw [dens_ints_inv hd] at hs
      exact ⟨_, sum_tup hc, a, ns, rfl, hs, here Rl h (den_int.mpr rfl)⟩
    · exact h.elim
  · exact h.elim
end
end Mi

end

section
/-! Mi, thirteenth part: repr, slices, tables of the text, items written. -/
namespace Mi
open PySem PySem.Spec PyProof.Rows L2

/-! ### repr of a tuple or a list of plain things -/
mutual
theorem py_noDict : ∀ d : D, PyData.hasDict (py d) = false
  | .non => rfl
  | .bl _ => rfl
  | .int _ => rfl
  | .str _ => rfl
  | .ty _ => rfl
  | .adr _ => rfl
  | .ref _ => rfl
  | .dct _ _ => rfl
  | .fn _ => rfl
  | .exo _ _ _ _ => rfl
  | .tup ds => by simp only [py, PyData.hasDict]; exact pys_noDict ds
  | .lst ds => by simp only [py, PyData.hasDict]; exact pys_noDict ds
theorem pys_noDict : ∀ ds : List D, PyData.hasDictAll (pys ds) = false
  | [] => rfl
  | d :: ds => by simp only [pys, PyData.hasDictAll, py_noDict d, pys_noDict ds, Bool.or_false]
end
def seqLike : D → Bool
  | .tup _ => true
  | .lst _ => true
  | _ => false
def shows (d : D) : Bool := flat d 60 && PyData.showable (py d) && decide ((PyData.shown (py d)).length ≤ lim)
def reprD : OpN := fun xs M => match xs with
  | [d] => if seqLike d && shows d then .ok (.str (PyData.shown (py d))) M else .err
  | _ => .err
theorem q_repr : QuietN reprD := by
  intro x M c fs M' e
  unfold reprD at e
  (repeat' split at e) <;> cases e
section
variable {X : Cx}
theorem cr_repr (c : Cf X) : CallR X (.builtin "repr") (fun xs H Q => ∃ a d, xs = [V.ref a] ∧ Dp X.K H (.ref a) d ∧ PyData.hasDict d = false ∧ PyData.showable d = true ∧ PyData.depth d ≤ 60 ∧ (PyData.shown d).length ≤ sizeLine ∧ Q (.str (PyData.shown d)) H) := by
  intro pins s σ H xs us Q I r h
  obtain ⟨a, d, rfl, dp, nd, sh, dd, hz, q⟩ := h
  rw [Vals.ref1 r]
  obtain ⟨as, rd⟩ := Dp.reads I d (.ref a) (.ref a) dp rfl
  exact repr_of_reads' rd sh (PyData.noDict_hsm nd) c.guards (by have := c.hu; omega) (fun _ _ e => e) (fun h' u tk hk => ⟨.str _, H, I.kept hk, ⟨_, rfl⟩, q⟩) hz
theorem o_repr (c : Cf X) : OpNR X (.builtin "repr") reprD := by
  intro ρ M H xs vs Q Rl dv h
  unfold reprD at h
  split at h
  · rename_i d
    obtain ⟨v, rfl, d1⟩ := dens_one dv
    split at h
    · rename_i z
      rw [Bool.and_eq_true] at z
      have z2 := z.2
      unfold shows at z2
      simp only [Bool.and_eq_true, decide_eq_true_eq] at z2
      have dp := flat_dp d 60 v z2.1.1 d1
      have hv : ∃ a, v = .ref a := by
        cases d <;> first
          | (cases z.1; done)
          | (obtain ⟨a, ys, rfl, _⟩ := den_tup.mp d1; exact ⟨a, rfl⟩)
          | (obtain ⟨a, ys, rfl, _⟩ := den_lst.mp d1; exact ⟨a, rfl⟩)
      obtain ⟨a, rfl⟩ := hv
      exact ⟨_, cr_repr c, a, py d, rfl, dp, py_noDict d, z2.1.2, (flat_can d 60 z2.1.1).2, lim_le z2.2, here Rl h (den_str.mpr rfl)⟩
    · exact h.elim
  · exact h.elim

/-! ### slices -/
abbrev MP := En → MH → R (Option Int)
abbrev DnO : Rho → Hp → Option Int → Option Int → Prop := fun _ _ a b => a = b
def SPa (X : Cx) (W : WX) (e : Option Expr) (m : MP) : Prop := PO X e (tm X.K DnO W m)
def mNoP : MP := fun _ M => .ok none M
def mPart (m : ME) : MP := fun env M => (m env M).bind fun d M1 => match d with
  | .int i => .ok (some i) M1
  | _ => .err
variable {W : WX}
theorem po_imp {e : Option Expr} {t t' : TO} (h : PO X e t) (i : ∀ σ H Q, t' σ H Q → t σ H Q) : PO X e t' := ⟨fun pins s σ H Q I q => h.run pins s σ H Q I (i σ H Q q)⟩
theorem p_no : SPa X W none mNoP := po_imp po_none fun σ H Q h => by
  obtain ⟨ρ, M, env, Rl, E, h⟩ := h
  exact h ρ H none (Stp.refl (K := X.K) (M := M)) Rl rfl
theorem p_some {e : Expr} {m : ME} (h : SE X W e m) : SPa X W (some e) (mPart m) := po_imp (po_some h) fun σ H Q h => by
  refine tm_bind (f := fun d env M1 => match d with | .int i => .ok (some i) M1 | _ => .err) h fun d M1 ρ1 H1 v env R1 E1 dv q => ?_
  split at q
  · rename_i i
    exact ⟨i, den_int.mp dv, q ρ1 H1 (some i) (Stp.refl (K := X.K) (M := M1)) R1 rfl⟩
  · exact q.elim
def cutD (ds : List D) (lo hi : Option Int) : List D := (ds.drop (HT.sIx ds.length 0 lo)).take (HT.sIx ds.length ds.length hi - HT.sIx ds.length 0 lo)
theorem Dens.cut {K : PySem.W.Frag} {ρ : Rho} {H : Hp} {ds : List D} {xs : List V} (h : Dens K ρ H ds xs) (lo hi : Option Int) : Dens K ρ H (cutD ds lo hi) (cutV xs lo hi) := by
  unfold cutD cutV
  rw [h.length]
  exact (h.drop _).take _
def sliceD (lo hi : Option Int) : Op1 := fun x M => match x with
  | .tup ds => .ok (.tup (cutD ds lo hi)) M
  | .lst ds => .ok (.lst (cutD ds lo hi)) M
  | .ref l => match M[l]? with
    | some (.lst ds) => .ok (.lst (cutD ds lo hi)) M
    | _ => .err
  | .str z => if z.length ≤ lim then .ok (.str (cutS z lo hi)) M else .err
  | _ => .err
theorem q_slice {lo hi : Option Int} {x : D} {M : MH} : ∀ c fs M', sliceD lo hi x M ≠ .exc c fs M' := by
  intro c fs M' e
  unfold sliceD at e
  (repeat' split at e) <;> cases e
def rSlD (K : PySem.W.Frag) : V → Option Int → Option Int → Hp → VK → Prop := fun x lo hi H Q => rSlA K x lo hi H Q ∨ rSlL K x lo hi H Q ∨ rSlS x lo hi H Q
theorem sl_D : SlR X (rSlD X.K) := sl_tupA.or (sl_list.or sl_str)
theorem cutD_all {ds : List D} {lo hi : Option Int} (h1 : HT.sIx ds.length 0 lo = 0) (h2 : HT.sIx ds.length ds.length hi = ds.length) : cutD ds lo hi = ds := by
  unfold cutD
  rw [h1, h2]
  simp
theorem o_slice {ρ : Rho} {M : MH} {H : Hp} {x : D} {v : V} {lo hi : Option Int} {Q : VK} (Rl : Rel X.K ρ M H) (dx : Den X.K ρ H x v) (h : ROk X.K ρ H Q (sliceD lo hi x M)) : rSlD X.K v lo hi H Q := by
  unfold sliceD at h
  split at h
  · rename_i ds
    have dx' := dx
    obtain ⟨a, xs, rfl, hs, hd⟩ := den_tup.mp dx
    refine .inl ⟨a, xs, rfl, hs, fun z => ?_, fun _ => newT Rl h (hd.cut lo hi)⟩
    rw [← hd.length] at z
    rw [cutD_all z.1 z.2] at h
    exact here Rl h dx'
  · obtain ⟨a, xs, rfl, hs, hd⟩ := den_lst.mp dx
    exact .inr (.inl ⟨a, xs, rfl, hs.sq, newL Rl h (hd.cut lo hi)⟩)
  · split at h
    · rename_i ds hm
      obtain ⟨a, ys, rfl, hs, hd⟩ := cell_lst Rl dx hm
      exact .inr (.inl ⟨a, ys, rfl, SqL.of hs, newL Rl h (hd.cut lo hi)⟩)
    · exact h.elim
  · rename_i z
    rw [den_str] at dx
    split at h
    · rename_i zl
      exact .inr (.inr ⟨z, dx, lim_le zl, here Rl h (den_str.mpr rfl)⟩)
    · exact h.elim
  · exact h.elim
def mSl (m : ME) (ml mh : MP) : ME := fun env M => (m env M).bind fun x M1 => (ml env M1).bind fun lo M2 => (mh env M2).bind fun hi M3 => sliceD lo hi x M3
theorem s_sl {e : Expr} {lo hi : Option Expr} {p2 pos : Pos} {m : ME} {ml mh : MP} (he : SE X W e m) (hl : SPa X W lo ml) (hh : SPa X W hi mh) : SE X W (.Subscript e (.Slice lo hi none p2) pos) (mSl m ml mh) := by
  refine pe_imp (pe_slice sl_D he hl hh) fun σ H Q h => ?_
  refine tm_bind (f := fun x env M1 => (ml env M1).bind fun lo M2 => (mh env M2).bind fun hi M3 => sliceD lo hi x M3) h fun x M1 ρ1 H1 v env R1 E1 dx h => ?_
  refine ⟨ρ1, M1, env, R1, E1, h.bind fun l M2 ρ2 H2 o _ S R2 eo h => ?_⟩
  obtain rfl : l = o := eo
  refine ⟨ρ2, M2, env, R2, E1.step R1 S, h.bind fun u M3 ρ3 H3 o' _ S' R3 eo' h => ?_⟩
  obtain rfl : u = o' := eo'
  exact o_slice R3 (Den.step R2 S' _ _ (Den.step R1 S _ _ dx)) (ok_quiet q_slice h)

/-! ### t[::-1] -/
theorem adjust_rev (n : Nat) : Builtin.Slice.sliceAdjust none none (-1) (n : Int) = ((n : Int) - 1, -1) := by
  unfold Builtin.Slice.sliceAdjust
  simp
theorem places_rev (n : Nat) : Builtin.Slice.slicePlaces ((n : Int) - 1) (-1) (-1) = n := by
  unfold Builtin.Slice.slicePlaces
  rw [if_neg (by decide)]
  split
  · rw [show (- -1 : Int) = 1 by decide, Int.ediv_one]
    omega
  · omega
theorem fm_map {α β : Type} {f : α → Option β} {g : α → β} : ∀ {l : List α}, (∀ x ∈ l, f x = some (g x)) → l.filterMap f = l.map g
  | [], _ => rfl
  | x :: l, h => by
    rw [List.filterMap_cons, h x (List.mem_cons_self ..), List.map_cons, fm_map fun y hy => h y (List.mem_cons_of_mem _ hy)]
theorem pick_rev (xs : Array Value) : ((List.range xs.size).filterMap fun (k : Nat) => xs[(((xs.size : Int) - 1) + (k : Int) * -1).toNat]?).toArray = xs.toList.reverse.toArray := by
  congr 1
  apply List.ext_getElem?
  intro i
  have e : (List.range xs.size).filterMap (fun (k : Nat) => xs[(((xs.size : Int) - 1) + (k : Int) * -1).toNat]?) = (List.range xs.size).map fun k => xs.getD (xs.size - 1 - k) .none := by
    refine fm_map fun k hk => ?_
    have hk' := List.mem_range.mp hk
    have e1 : (((xs.size : Int) - 1) + (k : Int) * -1).toNat = xs.size - 1 - k := by omega
    rw [e1]
    have hlt : xs.size - 1 - k < xs.size := by omega
    simp [Array.getD, hlt]
  rw [e, List.getElem?_map]
  by_cases hi : i < xs.size
  · rw [List.getElem?_range hi, List.getElem?_reverse (by simpa using hi)]
    have hlt : xs.size - 1 - i < xs.size := by omega
    simp [Array.getD, hlt]
  · rw [List.getElem?_eq_none (by simpa using hi), List.getElem?_eq_none (by simpa using hi)]
    rfl
theorem tup_rev {prog : Program} {w : World} {A : Around} {E : Value → Shared → Prop} {s : Shared} {t sl : Addr} {u : Tok} {items : Array Value} {Q : Value → Shared → Prop} (ht : IsTup s.heap t items) (hs : s.heap.IsSliceOf sl .none .none (.int (-1) u))
    (h : Q (.ref s.heap.objs.size) { s with heap := s.heap.push { cls := .type "tuple", data := .seq items.toList.reverse.toArray } })
    (hsz : items.size ≤ sizeLine) : wpAny (model prog w) A (getItem (.ref t) (.ref sl)) Q E s := by
  have fits : sizeOk (.seq items.toList.reverse.toArray) := by
    show items.toList.reverse.toArray.size ≤ sizeLine
    simpa using hsz
  obtain ⟨os, hos, hcs, hds⟩ := id hs
  have hTs : s.TypeIs (.ref sl) "slice" := ⟨os, hos, hcs⟩
  unfold getItem
  try with_reducible refine wpAny_holding ?_
  first | refine wpAny_bind (wpAny_pure ?_) | skip
  refine wpAny_bind (wpAny_sequenceKey ht.typeIs (by decide) ?_)
  refine wpAny_bind (wpAny_callSpecial?_slot (name := Str.ofString "__getitem__") ht.typeIs PyProof.Rows.slot_tuple_getitem
    (wpAny_call_entry PyProof.Rows.slot_tuple_getitem ht.typeIs entry_tuple_getitem ?_ (args_tuple_getitem _ _)))
  show wpAny _ _ (Builtin.Tuple.tupleItemsOf (.ref t) >>= _) _ _ s
  refine wpAny_bind (tupleItemsOf_ ht ?_)
  refine wpAny_bind (wpAny_typeOf hTs ?_)
  rw [if_pos (by decide)]
  have ap : ∀ {Q' : Int × Int × Nat → Shared → Prop}, Q' ((items.size : Int) - 1, -1, items.size) s → ∀ {A' : Around} {E' : Value → Shared → Prop}, wpAny (model prog w) A' (Builtin.Slice.sliceApplied (.ref sl) (pure (items.size : Int))) Q' E' s := fun {Q'} q {A' E'} => by
    unfold Builtin.Slice.sliceApplied Builtin.Slice.sliceFields
    refine wpAny_bind (wpAny_bind (wpAny_field hos hds (x := .none) rfl (wpAny_bind (wpAny_field hos hds (x := .none) rfl (wpAny_bind (wpAny_field hos hds (x := .int (-1) u) rfl (wpAny_pure ?_)))))))
    refine wpAny_bind (slicePart_int ?_)
    show wpAny _ _ (if ((-1 : Int) == 0) = true then _ else _) _ _ s
    rw [if_neg (by decide)]
    refine wpAny_bind (slicePart_none (wpAny_bind (slicePart_none (wpAny_bind (wpAny_pure ?_)))))
    show wpAny _ _ (match Builtin.Slice.sliceAdjust none none (-1) (items.size : Int) with | (lo, hi) => pure (lo, (-1 : Int), Builtin.Slice.slicePlaces lo hi (-1))) _ _ s
    rw [adjust_rev]
    show wpAny _ _ (pure ((items.size : Int) - 1, (-1 : Int), Builtin.Slice.slicePlaces ((items.size : Int) - 1) (-1) (-1))) _ _ s
    rw [places_rev]
    exact wpAny_pure q
  refine wpAny_bind (ap ?_)
  have hno : ¬ (((((items.size : Int) - 1) == 0) && ((-1 : Int) == 1) && (items.size == items.size)) = true) := by
    intro q
    rw [Bool.and_eq_true, Bool.and_eq_true] at q
    have q2 : ((-1 : Int) == 1) = true := q.1.2
    revert q2
    decide
  show wpAny _ _ (if (((((items.size : Int) - 1) == 0) && ((-1 : Int) == 1) && (items.size == items.size)) = true) then _ else _) _ _ s
  rw [if_neg hno, pick_rev]
  first
    | exact wpAny_bind (m := Builtin.Tuple.tupleExact _) (wpAny_newObj_type (wpAny_pure ⟨_, rfl, wpAny_pure h⟩) fits)
    | exact wpAny_bind (m := Builtin.Tuple.tupleExact _) (wpAny_newObj_type (wpAny_bind (wpAny_pure (wpAny_pure ⟨_, rfl, wpAny_pure h⟩))) fits)
    | exact wpAny_bind (wpAny_bind (m := Builtin.Tuple.tupleExact _) (wpAny_newObj_type (wpAny_pure (wpAny_pure ⟨_, rfl, wpAny_pure h⟩)) fits))
    | exact wpAny_bind (wpAny_bind (m := Builtin.Tuple.tupleExact _) (wpAny_newObj_type (wpAny_pure ⟨_, rfl, wpAny_pure h⟩) fits))
def revD : Op2 := fun x y M => match x, y with
  | .tup ds, .int i => if i = -1 then .ok (.tup ds.reverse) M else .err
  | _, _ => .err
theorem s_rev {e k : Expr} {p2 pos : Pos} {me mk : ME} (he : SE X W e me) (hk : SE X W k mk) (hn : evalPart (some k) X.env = eval k X.env := by rfl) (hs1 : ∀ o i, subscripted (.Slice none none (some k) p2) false o i = operate [o, i] (getItem o i) := by intro _ _; rfl) : SE X W (.Subscript e (.Slice none none (some k) p2) pos) (m2 revD me mk) := by
  refine ⟨fun pins s σ H Q I h => ?_⟩
  refine Subscript_ (thn (he.run pins s σ H (fun x H1 => ∃ ρ M env d, Rel X.K ρ M H1 ∧ EnR X.K ρ H1 env σ ∧ Den X.K ρ H1 d x ∧ Ok X.K ρ H1 (DnD X.K) (fun c d H' => W c d σ H') Q ((mk env M).bind fun y M2 => revD d y M2)) I ?_) fun v s1 ⟨x, H1, I1, r1, ρ, M, env, d, R1, E1, dx, q1⟩ => ?_)
  · exact tm_bind (f := fun x env M1 => (mk env M1).bind fun y M2 => revD x y M2) h fun x M1 ρ1 H1 v env R1 E1 dx h => ⟨ρ1, M1, env, x, R1, E1, dx, h⟩
  refine wpAny_Slice ?_
  rw [evalPart_none]
  refine wpAny_pure (wpAny_pure ?_)
  rw [hn]
  refine thn (hk.run pins s1 σ H1 (fun y H2 => ∃ a xs, x = .ref a ∧ SqT X.K H2 a xs ∧ y = .int (-1) ∧ ∀ p, H2 p = none → Q (.ref p) (upd H2 p (.tup xs.reverse))) I1 ?_) fun u s2 ⟨y, H2, I2, r2, a, xs, ex, hs, ey, q2⟩ => ?_
  · refine ⟨ρ, M, env, R1, E1, q1.bind fun y M2 ρ2 H2 w _ S R2 dy h => ?_⟩
    have dx2 := Den.step R1 S _ _ dx
    unfold revD at h
    split at h
    · rename_i ds i _
      obtain ⟨a, xs, rfl, hs, hd⟩ := den_tup.mp dx2
      split at h
      · rename_i ei
        subst ei
        exact ⟨a, xs, rfl, hs, den_int.mp dy, newT R2 h hd.reverse⟩
      · exact h.elim
    · exact h.elim
  · subst ex ey
    obtain rfl : v = Value.ref a := r1
    obtain ⟨t, rfl⟩ := r2
    have I4 : L2.Inv X pins σ H2 { s2 with heap := s2.heap.push { cls := .type "slice", data := .fields #[.none, .none, .int (-1) t] } } := I2.kept (t' := s2.toks) fun b ob q => Heap.get?_push_of_some _ q
    obtain ⟨its, r, ht, hz⟩ := I4.tuple hs
    have hlen : its.toArray.size = xs.length := by rw [List.size_toArray]; exact r.length.symm
    show wpAny (model X.prog X.w) X.A (subscriptTail e (.Slice none none (some k) p2) (.ref a) (.ref s2.heap.objs.size)) (EP X pins σ Q) X.xe { s2 with heap := s2.heap.push { cls := .type "slice", data := .fields #[.none, .none, .int (-1) t] } }
    refine tail_any (ops := [.ref a, .ref s2.heap.objs.size]) ht.typeIs PyProof.Rows.slot_tuple_getitem.lookup (tup_rev ht (Heap.IsSliceOf.new ..) ?_ (by rw [hlen]; exact hz)) (hs1 _ _)
    refine ⟨.ref _, _, I4.laid (t' := s2.toks) (o := .tup xs.reverse) (fun b ob q => Heap.get?_push_of_some _ q) (Nat.le_refl _) ?_, rfl, q2 _ (I4.hok.fresh (Nat.le_refl _))⟩
    exact ⟨by rw [List.length_reverse]; exact hz, _, r.reverse, IsTup.new _ _⟩
end
end Mi

end

section
/-! Mi, fourteenth part: tables of the text, items written, enumerate. -/
namespace Mi
open PySem PySem.Spec PyProof.Rows L2
section
variable {X : Cx} {W : WX}
/-! ### a table of the text: words to values -/
def KTab (K : PySem.W.Frag) (w : World) (p : Addr) (tbl : List (Str × D)) : Prop := ∀ q ∈ tbl, ∃ v, KDct K w p q.1 v ∧ Fix K q.2 v
def tabD (tbl : List (Str × D)) : Op1 := fun y M => match y with
  | .str z => match tbl.find? (fun q => decide (q.1 = z)) with
    | some q => .ok q.2 M
    | none => .err
  | _ => .err
theorem s_tab {x : Str} {p : Addr} {tbl : List (Str × D)} {b : Expr} {q pos : Pos} {mb : ME} (hm : X.mg x = some (.ref p)) (kt : KTab X.K X.w p tbl) (hb : SE X W b mb) (hg : Gl X x := by rfl) (hs : PlainIx b := by intro _ _; rfl) (hd : (x == ("__debug__" : Str)) = false := by decide) :
    SE X W (.Subscript (.Name x q) b pos) (m1 (tabD tbl) mb) := by
  refine pe_imp (pe_ix ix_kdict (pe_glob hg hm (show RelV (.ref p) (.ref p) from rfl) hd) hb hs) fun σ H Q h => ?_
  show tm X.K (DnD X.K) W mb σ H (fun y H2 => rIxD X.K X.w (.ref p) y H2 Q)
  refine tm_bind (f := fun y env M1 => tabD tbl y M1) h fun y M1 ρ1 H1 w env R1 E1 dy h => ?_
  unfold tabD at h
  split at h
  · rename_i z
    split at h
    · rename_i r e
      obtain ⟨v, k, f⟩ := kt r (List.mem_of_find?_eq_some e)
      have e2 : r.1 = z := by simpa using List.find?_some e
      subst e2
      exact ⟨p, r.1, v, rfl, den_str.mp dy, k, h ρ1 H1 v (Stp.refl (K := X.K) (M := M1)) R1 (f ρ1 H1)⟩
    · exact h.elim
  · exact h.elim

/-! ### items written -/
def putM {κ : Type} [DecidableEq κ] (kvs : List (κ × D)) (k : κ) (d : D) : List (κ × D) := if (kvs.any fun kv => decide (kv.1 = k)) = true then kvs.map (fun kv => if kv.1 = k then (kv.1, d) else kv) else kvs ++ [(k, d)]
theorem denP_any {κ : Type} [DecidableEq κ] {K : PySem.W.Frag} {ρ : Rho} {H : Hp} {ps : List (κ × D)} {qs : List (κ × V)} (h : DenP K ρ H ps qs) (k : κ) : (ps.any fun kv => decide (kv.1 = k)) = qs.any fun kv => decide (kv.1 = k) := by
  induction h with
  | nil => rfl
  | cons r _ ih => rw [List.any_cons, List.any_cons, ih, r.1]
theorem denP_sets {κ : Type} [DecidableEq κ] {K : PySem.W.Frag} {ρ : Rho} {H : Hp} {ps : List (κ × D)} {qs : List (κ × V)} {k : κ} {d : D} {v : V} (h : DenP K ρ H ps qs) (dv : Den K ρ H d v) :
    DenP K ρ H (ps.map fun kv => if kv.1 = k then (kv.1, d) else kv) (qs.map fun kv => if kv.1 = k then (kv.1, v) else kv) := by
  induction h with
  | nil => exact .nil
  | @cons p q ps qs r _ ih =>
    rw [List.map_cons, List.map_cons]
    refine .cons ?_ ih
    rw [← r.1]
    split
    · exact ⟨rfl, dv⟩
    · exact r
theorem denP_more {κ : Type} {K : PySem.W.Frag} {ρ : Rho} {H : Hp} {ps : List (κ × D)} {qs : List (κ × V)} {k : κ} {d : D} {v : V} (h : DenP K ρ H ps qs) (dv : Den K ρ H d v) : DenP K ρ H (ps ++ [(k, d)]) (qs ++ [(k, v)]) := by
  induction h with
  | nil => exact .cons ⟨rfl, dv⟩ .nil
  | cons r _ ih => exact .cons r ih
theorem denP_put {κ : Type} [DecidableEq κ] {K : PySem.W.Frag} {ρ : Rho} {H : Hp} {ps : List (κ × D)} {qs : List (κ × V)} {k : κ} {d : D} {v : V} (h : DenP K ρ H ps qs) (dv : Den K ρ H d v) : DenP K ρ H (putM ps k d) (putK qs k v) := by
  unfold putM putK
  rw [denP_any h k]
  split
  · exact denP_sets h dv
  · exact denP_more h dv
theorem dens_set {K : PySem.W.Frag} {ρ : Rho} {H : Hp} {d : D} {v : V} (dv : Den K ρ H d v) : ∀ {ds : List D} {xs : List V}, Dens K ρ H ds xs → ∀ j : Nat, Dens K ρ H (ds.set j d) (xs.set j v)
  | [], xs, h, j => by rw [dens_nil] at h; subst h; exact dens_nil.mpr rfl
  | e :: ds, xs, h, j => by
    obtain ⟨w, r, rfl, h1, h2⟩ := dens_cons.mp h
    cases j with
    | zero => exact dens_cons.mpr ⟨v, r, rfl, dv, h2⟩
    | succ j => exact dens_cons.mpr ⟨w, r.set j v, rfl, h1, dens_set dv h2 j⟩
def putD (o i d : D) (M : MH) : Option MH := match o with
  | .ref l => match M[l]? with
    | some (.lst ds) => match i with
      | .int k => match ixN ds.length k with
        | some j => some (M.set l (.lst (ds.set j d)))
        | none => none
      | _ => none
    | some (.dct kvs) => match keyOf i with
      | some k => if kvs.length < lim then some (M.set l (.dct (putM kvs k d))) else none
      | none => none
    | _ => none
  | _ => none
def cPut (mv mo mi : ME) : MS := fun env M => andS (mv env M) env fun d M1 => andS (mo env M1) env fun o M2 => andS (mi env M2) env fun i M3 => match putD o i d M3 with
  | some M4 => .nx env M4
  | none => .err
def rPut : TSet := fun o i v H Q => rSetL o i v H Q ∨ rSetD o i v H Q
theorem set_put (c : Cf X) : PSet X rPut := fun pins s σ H o i v ov iv u Q I ro ri rv h => by
  rcases h with h | h
  · exact set_list pins s σ H o i v ov iv u Q I ro ri rv h
  · exact set_dict (by have := c.hu; omega) pins s σ H o i v ov iv u Q I ro ri rv h
theorem o_put {ρ : Rho} {M M' : MH} {H : Hp} {o i d : D} {vo vi vd : V} {Q : Hp → Prop} (Rl : Rel X.K ρ M H) (d1 : Den X.K ρ H o vo) (d2 : Den X.K ρ H i vi) (d3 : Den X.K ρ H d vd) (e : putD o i d M = some M') (h : ∀ H', Stp ρ H ρ H' → Rel X.K ρ M' H' → Q H') : rPut vo vi vd H Q := by
  unfold putD at e
  split at e
  · rename_i l
    obtain ⟨p, u, rfl, hl, ho⟩ := den_ref.mp d1
    split at e
    · rename_i ds hm
      obtain ⟨b, xs, h1, h2, h3⟩ := Rl.obj l _ hm
      have hl2 := h1
      rw [hl] at h1
      cases h1
      have ep := ho b rfl
      subst ep
      split at e
      · rename_i k
        rw [den_int] at d2
        subst d2
        split at e
        · rename_i j ej
          cases e
          have S : Stp ρ H ρ (upd H b (.lst (xs.set j vd))) := Stp.write hl2
          refine .inl ⟨b, xs, k, j, rfl, rfl, h2, by rw [← h3.length]; exact ej, h _ S (Rl.write hl2 ⟨b, xs.set j vd, hl2, upd_same, ?_⟩)⟩
          exact Dens.step Rl S _ _ (dens_set d3 h3 j)
        · cases e
      · cases e
    · rename_i kvs hm
      obtain ⟨b, ks, h1, h2, h3⟩ := Rl.obj l _ hm
      have hl2 := h1
      rw [hl] at h1
      cases h1
      have ep := ho b rfl
      subst ep
      split at e
      · rename_i k hk
        split at e
        · rename_i hz
          cases e
          have S : Stp ρ H ρ (upd H b (.dK (putK ks k vd))) := Stp.write hl2
          have hlen : ks.length < sizeLine := by
            rw [← Paired.length h3]
            exact lim_lt hz
          rw [keyOf_v hk d2]
          refine .inr ⟨b, _, rfl, DPut.k h2 hlen, h _ S (Rl.write hl2 ⟨b, putK ks k vd, hl2, upd_same, ?_⟩)⟩
          exact DenP.step Rl S (denP_put h3 d3)
        · cases e
      · cases e
    · cases e
  · cases e
/-- as andS_tm, and how far the heap has come -/
theorem andS_stp {α β : Type} {K : PySem.W.Frag} {dn : Rho → Hp → α → β → Prop} {D : Ends} {σ : L2.St} {H : Hp} {ρ : Rho} {M : MH} {env : En} {m : En → MH → R α} {f : α → MH → RS} {Q : β → Hp → Prop} (Rl : Rel K ρ M H) (E : EnR K ρ H env σ)
    (h : OkS K ρ H W D (andS (m env M) env f))
    (k : ∀ a M1 ρ1 H1 v, Stp ρ H ρ1 H1 → Rel K ρ1 M1 H1 → EnR K ρ1 H1 env σ → dn ρ1 H1 a v → OkS K ρ1 H1 W D (f a M1) → Q v H1) : tm K dn W m σ H Q := by
  refine ⟨ρ, M, env, Rl, E, ?_⟩
  cases e : m env M with
  | err => rw [e] at h; exact h
  | exc c fs M1 =>
    rw [e] at h
    exact fun ρ1 H1 d cv cn S R1 x => h ρ1 H1 d σ cv cn S R1 x (E.step Rl S)
  | ok a M1 =>
    rw [e] at h
    have h' : OkS K ρ H W D (f a M1) := h
    exact fun ρ1 H1 v S R1 dv => k a M1 ρ1 H1 v S R1 (E.step Rl S) dv (h'.step S)
theorem c_put (c : Cf X) {o i e : Expr} {p2 pos : Pos} {mo mi mv : ME} (hv : SE X W e mv) (ho : SE X W o mo) (hi : SE X W i mi)
    (ha : ∀ v, assign (.Subscript o i p2) X.env v = (do
      let ov ← holding [v] (eval o X.env)
      let iv ← holding [v, ov] (eval i X.env)
      standAt p2
      holding [v, ov, iv] (setItem ov iv v)
      release [v, ov, iv] []) := by intro _; rfl)
    (hs : swapsWithSole [.Subscript o i p2] e pos.line X.env = pure false := by rfl) (hw : swappedStores [.Subscript o i p2] e X.env = pure none := by rfl)
    (h1 : (assignEach [.Subscript o i p2] X.env).map (·.2) = [assign (.Subscript o i p2) X.env] := by rfl) : SS X W (.Assign [.Subscript o i p2] e pos) (cPut mv mo mi) := by
  refine ps_imp (ps_asg hv (pg_sub ho hi (set_put c) ha) hs hw h1) fun D σ H q => ?_
  obtain ⟨ρ, M, env, Rl, E, q⟩ := q
  refine andS_stp Rl E q fun d M1 ρ1 H1 v S1 R1 E1 dv q1 => ?_
  refine andS_stp R1 E1 q1 fun o M2 ρ2 H2 w S2 R2 E2 dw q2 => ?_
  refine andS_stp R2 E2 q2 fun i M3 ρ3 H3 x S3 R3 E3 dx q3 => ?_
  split at q3
  · rename_i M4 e
    exact o_put R3 (Den.step R2 S3 _ _ dw) dx (Den.step R2 S3 _ _ (Den.step R1 S2 _ _ dv)) e fun H' S R' => q3 ρ3 H' σ S R' (E3.step R3 S)
  · exact q3.elim
end
end Mi

end

section
/-! Mi, fifteenth part: enumerate over a tuple, from any number. -/
namespace Mi
open PySem PySem.Spec PyProof.Rows L2
/-- the tuple at a, each item in a new pair with its number -/
def iteT (K : PySem.W.Frag) (a : Addr) (k0 : Int) : It :=
  ⟨fun i H => ∃ (xs : List V) (x : V), SqT K H a xs ∧ xs[i]? = some x, fun i H v H' => ∃ T x, v = .ref T ∧ H T = none ∧ H' = upd H T (.tup [.int (k0 + (i : Int)), x]) ∧ ∀ xs, SqT K H a xs → xs[i]? = some x, fun i H => ∃ xs : List V, SqT K H a xs ∧ xs.length = i⟩
theorem tup_inj {X : Cx} {pins : List (Addr × Obj)} {σ : L2.St} {H : Hp} {s : Shared} {a : Addr} {xs ys : List V} (I : L2.Inv X pins σ H s) (h : SqT X.K H a xs) (h' : SqT X.K H a ys) : xs = ys := by
  obtain ⟨its, r, ⟨o, e, _, n, d⟩, _⟩ := I.tuple h
  obtain ⟨its', r', ⟨o', e', _, n', d'⟩, _⟩ := I.tuple h'
  rw [e] at e'
  cases e'
  rw [d] at d'
  injection d' with d1 _
  have e2 : its = its' := by simpa using congrArg Array.toList d1
  subst e2
  exact Vals.inj r r'
theorem turn_iteT {P : Program} {w : World} {K : PySem.W.Frag} {elts : List Expr} {kk : Nat} {tpos : Pos} (a e it : Addr) (k0 : Int) (hae : a ≠ e) (hai : a ≠ it) :
    Turn P w K (.Tuple elts kk tpos) (iteT K a k0) [e, it] e (fun i h => (∃ old, IsEnum h e it (k0 + (i : Int)) old) ∧ h.IsTupleIter it a i ∧ e ≠ it) where
  mem := by simp
  obj := fun i h st b hb => by
    obtain ⟨⟨old, he⟩, ⟨o, ho, hc, hd⟩, _⟩ := st
    have e' : b = e ∨ b = it := by simpa using hb
    rcases e' with z | z
    · rw [z]; exact ⟨_, he, fun v q => nomatch q⟩
    · rw [z]; exact ⟨o, ho, fun v q => by rw [hd] at q; cases q⟩
  keep := fun i h h' st k => let ⟨⟨old, he⟩, hi, hne⟩ := st; ⟨⟨old, k e (by simp) _ he⟩, hi.at fun o q => k it (by simp) o q, hne⟩
  item := by
    intro X hP hw hK hc i pins s σ H E I hf st hg
    subst hP hw hK
    obtain ⟨⟨old, he⟩, hit, hne⟩ := st
    obtain ⟨xs, x, hq, hx⟩ := hg
    obtain ⟨its, rv, ht, hz⟩ := I.tuple hq
    obtain ⟨u, hu, ru⟩ := rv.get hx
    have hel : e < s.heap.objs.size := Heap.lt_size he
    have hil : it < s.heap.objs.size := by obtain ⟨_, q, _⟩ := hit; exact Heap.lt_size q
    have hlt : i < its.toArray.size := by
      have := (List.getElem?_eq_some_iff.mp hu).1
      simpa using this
    have hh : X.A.in1.handled = none := I.ok.hd hc
    have itp : s.heap.IsTuple a its.toArray := by
      obtain ⟨o, e1, e2, e3⟩ := ht
      exact ⟨o, e1, e2, e3⟩
    refine wpAny_pyNext_enum_itemC (Draws.tuple (A := X.A.in1) hh it a hai its.toArray) he ⟨hit, itp⟩ hlt hne (by simp [hne, Ne.symm hae]) fun y h' tk hP ho hs' hT hsz hk => ?_
    have ey : y = u := by
      have : its.toArray[i]? = some y := hP
      rw [List.getElem?_toArray, hu] at this
      exact (Option.some.inj this).symm
    subst ey
    refine ⟨_, rfl, wpAny_letOwnedTupleGo_enum (s := { s with heap := h', toks := tk + 1 }) ho fun h'' he' sb => ?_⟩
    have hT2 : h''.get? s.heap.objs.size = some { cls := .type "tuple", data := .seq #[.int (k0 + (i : Int)) tk, y] } := (sb.2 _ (Nat.ne_of_gt hel)).trans hT
    have new : ObjOk X.prog X.w (upd H s.heap.objs.size (.tup [.int (k0 + (i : Int)), x])) h'' s.heap.objs.size (.tup [.int (k0 + (i : Int)), x]) :=
      ⟨by show 2 ≤ sizeLine; decide, [.int (k0 + (i : Int)) tk, y], .cons ⟨_, rfl⟩ (.cons ru .nil), ⟨_, hT2, rfl, _, rfl⟩⟩
    have I1 : L2.Inv X pins σ (upd H s.heap.objs.size (.tup [.int (k0 + (i : Int)), x])) { s with heap := h'', toks := tk + 1 } :=
      I.turnedNew (ch := [e, it]) (fun b ob hb q => (sb.2 b (fun z => hb (by simp [z]))).trans (hk b ob (fun z => hb (by simp [z])) (fun z => hb (by simp [z])) q)) hf (Nat.le_refl _) new
    refine ⟨.ref s.heap.objs.size, _, I1, rfl, ⟨_, x, rfl, I.hok.fresh (Nat.le_refl _), rfl, fun ys hy => by rw [tup_inj I hy hq]; exact hx⟩, ⟨⟨y, ?_⟩, hs'.1.at fun o q => (sb.2 it (Ne.symm hne)).trans q, hne⟩, fun b hb => ?_⟩
    · have e1 : k0 + ((i + 1 : Nat) : Int) = k0 + (i : Int) + 1 := by omega
      rw [e1]; exact he'
    · have hb' : b < s.heap.objs.size := by
        have e' : b = e ∨ b = it := by simpa using hb
        rcases e' with z | z
        · rw [z]; exact hel
        · rw [z]; exact hil
      rw [upd_ne (Nat.ne_of_lt hb')]
      exact (hf b hb).1
  done := by
    intro X hP hw hK hc i pins s σ H E I hf st hg
    subst hP hw hK
    obtain ⟨⟨old, he⟩, hit, hne⟩ := st
    obtain ⟨xs, hq, hx⟩ := hg
    obtain ⟨its, rv, ht, hz⟩ := I.tuple hq
    obtain ⟨f0, f1, f2, f3, f4, f5⟩ := hf it (by simp)
    have hl := rv.length
    have hn : its.toArray.size = i := by rw [List.size_toArray, ← hl]; exact hx
    have hh : X.A.in1.handled = none := I.ok.hd hc
    have itp : s.heap.IsTuple a its.toArray := by
      obtain ⟨o, e1, e2, e3⟩ := ht
      exact ⟨o, e1, e2, e3⟩
    refine wpAny_pyNext_enum_endD (Draws.tuple (A := X.A.in1) hh it a hai its.toArray) he ⟨by rw [hn]; exact hit, itp⟩ fun h' eb => ⟨rfl, ?_⟩
    exact I.turned (t' := s.toks) (fun b o hb q => eb b o hb q) f0 f1 f3 f4 f5
  self := fun A i s Q E st h => let ⟨⟨_, he⟩, _⟩ := st; wpAny_pyIter_enum he h
/-- pairs of numbers and items -/
def enumL : Int → List D → List D
  | _, [] => []
  | k, d :: ds => .tup [.int k, d] :: enumL (k + 1) ds
theorem enumL_len : ∀ {k : Int} {ds : List D}, (enumL k ds).length = ds.length
  | _, [] => rfl
  | k, d :: ds => congrArg (· + 1) (enumL_len (k := k + 1) (ds := ds))
theorem enumL_get : ∀ {ds : List D} {k : Int} {i : Nat} {d : D}, (enumL k ds)[i]? = some d → ∃ e, ds[i]? = some e ∧ d = .tup [.int (k + (i : Int)), e]
  | [], k, i, d, h => by cases h
  | e :: ds, k, 0, d, h => by
    cases h
    exact ⟨e, rfl, by simp⟩
  | e :: ds, k, i + 1, d, h => by
    obtain ⟨f, h1, h2⟩ := enumL_get (ds := ds) (k := k + 1) (i := i) h
    refine ⟨f, h1, ?_⟩
    rw [h2]
    have e1 : k + 1 + (i : Int) = k + ((i + 1 : Nat) : Int) := by omega
    rw [e1]
theorem wk_enum {K : PySem.W.Frag} {ρ : Rho} {M : MH} {H : Hp} {a : Addr} {ds : List D} {xs : List V} {k0 : Int} (Rl : Rel K ρ M H) (hs : SqT K H a xs) (hd : Dens K ρ H ds xs) : Wk K ρ H (iteT K a k0) (enumL k0 ds) where
  goes := fun i ρ' M' H' hi R' S _ => by
    rw [enumL_len, hd.length] at hi
    exact ⟨xs, xs[i], SqT.tr S hs, by simp [hi]⟩
  stops := fun ρ' M' H' R' S _ => ⟨xs, SqT.tr S hs, by rw [enumL_len, hd.length]⟩
  yields := fun i ρ' M' H' x H'' d hd' R' S _ y => by
    obtain ⟨e, h1, h2⟩ := enumL_get hd'
    subst h2
    obtain ⟨v, h3, h4⟩ := hd.get h1
    obtain ⟨T, z, rfl, hn, rfl, hz⟩ := y
    have e2 := hz xs (SqT.tr S hs)
    rw [h3] at e2
    cases e2
    have h5 := Den.tr S _ _ h4
    exact ⟨R'.alloc hn, Stp.alloc hn, den_newT R' hn (dens_cons.mpr ⟨_, _, rfl, den_int.mpr rfl, dens_cons.mpr ⟨_, _, rfl, h5, dens_nil.mpr rfl⟩⟩)⟩
def enumD (k0 : Int) : List D → MH → R (List D) := fun xs M => match xs with
  | [.tup ds] => .ok (enumL k0 ds) M
  | _ => .err
/-! what enumerate(v) makes, v told by its iterator -/
abbrev enumO (it : Addr) : Obj := { cls := .type "enumerate", data := .fields #[.none, .bool false, .ref it, rawInt 0, .none, .none] }
set_option maxHeartbeats 1000000 in
theorem meets_enum1 {v : Value} {o : Obj} {Hy : Heap → Prop} (B : Begins v o Hy) :
    Meets (Builtin.«enumerate.__new__» ⟨[.type "enumerate", v], []⟩) (fun _ R s => Hy s.heap ∧ R (.ok (.ret (.ref (s.heap.push o).objs.size))) { s with heap := (s.heap.push o).push (enumO s.heap.objs.size) }) :=
  .of_wp fun prog w A R ⟨hp, g, d, tk, os⟩ ⟨h1, h2⟩ => by
    have sb := sub_enumerate
    have go : ∀ {A2 : Around} {E2 : Value → Shared → Prop} {Q2 : Value → Shared → Prop}, Q2 (.ref hp.objs.size) ⟨hp.push o, g, d, tk, os⟩ → wpAny (model prog w) A2 (pyIter v) Q2 E2 ⟨hp, g, d, tk, os⟩ := fun q => B.iter prog w _ _ ⟨hp, g, d, tk, os⟩ _ h1 q
    wp_walk using go
    refine wpAny_stack_any fun stk => wpAny_pure ?_
    split
    · rename_i cc _ _ _ _ _
      cases (cc == Value.type "enumerate") <;> (wp_walk using go; exact ⟨_, rfl, h2⟩)
    · wp_walk using go; exact ⟨_, rfl, h2⟩
theorem enum_new {prog : Program} {w : World} {A : Around} {E : Value → Shared → Prop} {s : Shared} {v : Value} {o : Obj} {Hy : Heap → Prop} {Q : Value → Shared → Prop} (B : Begins v o Hy) (h1 : Hy s.heap)
    (h : ∀ h2, IsEnum h2 (s.heap.objs.size + 1) s.heap.objs.size 0 .none → h2.get? s.heap.objs.size = some o → (∀ b u, s.heap.get? b = some u → h2.get? b = some u) → Q (.ref (s.heap.objs.size + 1)) { s with heap := h2 }) : wpAny (model prog w) A (call (.type "enumerate") [v]) Q E s := by
  refine callType_new F.called_enumerate (by decide) (F.typeCall_enumerate_1 _) (F.newCall_enumerate_1 _) (fun ob => F.args_object_init_2 ob _) F.entry_enumerate_new (meets_enum1 B) ⟨h1, ?_⟩
  have z : (s.heap.push o).objs.size = s.heap.objs.size + 1 := Heap.size_push ..
  show _ ∧ _
  rw [z]
  have he : IsEnum ((s.heap.push o).push (enumO s.heap.objs.size)) (s.heap.objs.size + 1) s.heap.objs.size 0 .none := by
    have := Heap.get?_push_size (s.heap.push o) (o := enumO s.heap.objs.size) rfl
    rw [z] at this
    exact this
  exact ⟨⟨_, he, rfl⟩, h _ he (Heap.get?_push_of_some _ (Heap.get?_push_size _ B.free)) fun b u x => Heap.get?_push_of_some _ (Heap.get?_push_of_some _ x)⟩
section
variable {X : Cx} {W : WX}
theorem call_enum {pins : List (Addr × Obj)} {σ : L2.St} {H : Hp} {s : Shared} {tg : List Expr} {kk : Nat} {tpos : Pos} {a : Addr} {xs : List V} {k : Int} {Rr : It → Hp → Prop} (I : L2.Inv X pins σ H s) (hq : SqT X.K H a xs) (q : Rr (iteT X.K a k) H) (h' : Heap)
    (he : IsEnum h' (s.heap.objs.size + 1) s.heap.objs.size k .none) (hit : h'.get? s.heap.objs.size = some { cls := .type "tuple_iterator", data := .fields #[.ref a, .int 0 0] }) (hk : ∀ b o, s.heap.get? b = some o → h'.get? b = some o) :
    PIE X pins σ (.Tuple tg kk tpos) Rr (.ref (s.heap.objs.size + 1)) { s with heap := h' } := by
  have I2 : L2.Inv X pins σ H { s with heap := h' } := I.kept (t' := s.toks) hk
  obtain ⟨its, rv, ht, hz⟩ := I.tuple hq
  have hal : a < s.heap.objs.size := by obtain ⟨_, e, _⟩ := ht; exact Heap.lt_size e
  refine ⟨s.heap.objs.size + 1, [s.heap.objs.size + 1, s.heap.objs.size], _, _, H, rfl, I2, turn_iteT a (s.heap.objs.size + 1) s.heap.objs.size k (Nat.ne_of_lt (Nat.lt_succ_of_lt hal)) (Nat.ne_of_lt hal), ⟨⟨.none, ?_⟩, ⟨_, hit, rfl, rfl⟩, Nat.succ_ne_self _⟩, fun b hb => ?_, q⟩
  · show IsEnum h' _ _ (k + ((0 : Nat) : Int)) _
    have : k + ((0 : Nat) : Int) = k := by omega
    rw [this]
    exact he
  · have e' : b = s.heap.objs.size + 1 ∨ b = s.heap.objs.size := by simpa using hb
    have hle : s.heap.objs.size ≤ b := by
      rcases e' with z | z
      · rw [z]; exact Nat.le_add_right _ _
      · rw [z]; exact Nat.le_refl _
    exact I.fpOk hle (I.hok.fresh hle)
theorem tup_is {pins : List (Addr × Obj)} {σ : L2.St} {H : Hp} {s : Shared} {a : Addr} {xs : List V} (I : L2.Inv X pins σ H s) (h : SqT X.K H a xs) : ∃ its : Array Value, s.heap.IsTuple a its := by
  obtain ⟨its, rv, ⟨o, e1, e2, e3⟩, hz⟩ := I.tuple h
  exact ⟨its.toArray, o, e1, e2, e3⟩
theorem enum_o {k : Int} {ds : List D} {vs : List V} {ρ : Rho} {M : MH} {H : Hp} {Q : It → Hp → Prop} {Wf : Value → Option Addr → Hp → Prop} (R1 : Rel X.K ρ M H) (dv : Dens X.K ρ H ds vs) (q : Ok X.K ρ H (DnI X.K) Wf Q (enumD k ds M)) : ∃ a xs, vs = [.ref a] ∧ SqT X.K H a xs ∧ Q (iteT X.K a k) H := by
  unfold enumD at q
  split at q
  · obtain ⟨v, rfl, d⟩ := dens_one dv
    obtain ⟨a, xs, rfl, hs, hd⟩ := den_tup.mp d
    exact ⟨a, xs, rfl, hs, q ρ H _ (Stp.refl (K := X.K) (M := M)) R1 (wk_enum R1 hs hd)⟩
  · exact q.elim
/-- over enumerate(t) -/
theorem i_enum {e : Expr} {ma : MA} {p pos tpos : Pos} {elts : List Expr} {kk : Nat} (hm : X.mg "enumerate" = none) (ha : SA X W [e] ma) (hg : Gl X "enumerate" := by rfl) (hs : starEach [e] X.env = (false, eval e X.env) :: starEach [] X.env := by rfl) :
    SI X W (.Tuple elts kk tpos) (.Call (.Name "enumerate" p) [e] [] pos) (mI (enumD 0) ma) := by
  refine ⟨fun pins s σ H Rr I h => ?_⟩
  refine Call_ (ld_blt I hg hm boot_enumerate (PyProof.Rows.callWith_type1 (thn (ha.run pos pins s σ H (fun vs H1 => ∃ a xs, vs = [.ref a] ∧ SqT X.K H1 a xs ∧ Rr (iteT X.K a 0) H1) I ?_) fun us s1 ⟨vs, H1, I1, r1, a, xs, ex, hq, q⟩ => ?_) hs rfl))
  · obtain ⟨ρ, M, env, Rl, E, h⟩ := h
    exact ⟨ρ, M, env, Rl, E, h.bind fun ds M1 ρ1 H1 vs _ S R1 dv q1 => enum_o R1 dv q1⟩
  subst ex
  rw [Vals.ref1 r1]
  obtain ⟨its, ht⟩ := tup_is I1 hq
  exact enum_new (begins_tuple a its) ht fun h' he hit hk => wpAny_pyIter_enum he (call_enum I1 hq q h' he hit hk)
/-- over enumerate(t, start=k) -/
theorem i_enumK {e : Expr} {k : Int} {j : Tok} {ma : MA} {p pos tpos kp kp2 : Pos} {elts : List Expr} {kk : Nat} (hm : X.mg "enumerate" = none) (ha : SA X W [e] ma) (hk0 : -(2 ^ 63) ≤ k) (hk1 : k < 2 ^ 63) (hg : Gl X "enumerate" := by rfl)
    (hs : starEach [e] X.env = (false, eval e X.env) :: starEach [] X.env := by rfl) (hall : (backToKw pos (keywordEach [⟨some (Str.ofString "start"), .Constant (.int k) j kp, kp2⟩] X.env)).all (·.1.isSome) = true := by rfl)
    (hks : (backToKw pos (keywordEach [⟨some (Str.ofString "start"), .Constant (.int k) j kp, kp2⟩] X.env)).filterMap (·.1) = [Str.ofString "start"] := by rfl)
    (hpl : ((backTo pos (starEach [e] X.env)).any (·.1) || (backToKw pos (keywordEach [⟨some (Str.ofString "start"), .Constant (.int k) j kp, kp2⟩] X.env)).any (·.1.isNone)) = false := by rfl) :
    SI X W (.Tuple elts kk tpos) (.Call (.Name "enumerate" p) [e] [⟨some (Str.ofString "start"), .Constant (.int k) j kp, kp2⟩] pos) (mI (enumD k) ma) := by
  refine ⟨fun pins s σ H Rr I h => ?_⟩
  refine wpAny_Call_Name_kw (ld_blt I hg hm boot_enumerate ?_)
  refine PySem.W.callWith_of (P := fun _ => True) hpl (fun h _ => ⟨.machine, .inr (.inl rfl), .now⟩) (evalArgs_kw2 hall (thn (ha.run pos pins s σ H (fun vs H1 => ∃ a xs, vs = [.ref a] ∧ SqT X.K H1 a xs ∧ Rr (iteT X.K a k) H1) I ?_) fun us s1 ⟨vs, H1, I1, r1, a, xs, ex, hq, q⟩ => ?_) hs)
  · obtain ⟨ρ, M, env, Rl, E, h⟩ := h
    exact ⟨ρ, M, env, Rl, E, h.bind fun ds M1 ρ1 H1 vs _ S R1 dv q1 => enum_o R1 dv q1⟩
  subst ex
  rw [Vals.ref1 r1]
  refine thn ((pk_cons (pe_int (i := k) (j := j) (pos := kp)) pk_nil).run pos pins s1 σ H1 (fun ws H2 => ws = [V.int k] ∧ H2 = H1) I1 ⟨rfl, rfl⟩) fun ws s2 ⟨zs, H2, I2, rz, ez, eh⟩ => ⟨True.intro, ?_⟩
  subst ez eh
  rw [hks]
  cases rz with
  | cons r rr =>
    cases rr
    obtain ⟨t, rfl⟩ := r
    obtain ⟨its, ht⟩ := tup_is I2 hq
    exact enum_begins_start (begins_tuple a its) ht hk0 hk1 fun h' he hit hsz hk => wpAny_pyIter_enum he (call_enum I2 hq q h' he hit hk)
end
end Mi

end

section
/-! Mi, sixteenth part: the end: a law's def as a function on data, behind the head. -/
namespace Mi
open PySem PySem.Spec PyProof.Rows L2
section
variable {P : Program} {w : World} {K : PySem.W.Frag} {mg mb : Str → Option Value} {k : Nat} {fa a : Addr} {fd : FuncData} {x : Str} {m : MF} {s1 : Shared} {vs : List Value} {ns : List Int}
/-- what the head wants of the law's call -/
abbrev EndsSo (s1 : Shared) : Result → Shared → Prop := fun r s2 => r = .ok (.ret (.bool true)) ∧ OldK s1.heap s2.heap ∧ s2.os = s1.os ∧ AllBare s2.gens
theorem rel0 {H : Hp} : Rel K ⟨[], []⟩ [] H := ⟨rfl, fun _ h => (by cases h), fun _ _ _ h => (by cases h), fun _ _ h => (by cases h)⟩
/-- from a heap in which at most the script is known -/
theorem end_core (KX : K.In s1.heap) (gl : s1.heap.Ns mainGlobals mg) (bl : s1.heap.Ns builtinsNs mb) (bb : ∀ z : Str, z ≠ "__name__" → mb z = bootBuiltins z) (nl : s1.heap.NoLimit) (gn : s1.gens = #[])
    (sc : s1.heap.get? a = some { cls := .type "list", data := .seq vs.toArray }) (rm : Room k callerA)
    (F : ∀ base : Heap, K.In base → base.Ns mainGlobals mg → FnG P w K mg base k fa fd [x] (spM K 1 m)) (bt : ∀ (s : Shared) (u : Value), BindsTo s fd ⟨[u], []⟩ [(x, u)])
    {M' : MH} (hm : m [.lst (ns.map D.int)] [] = .ok (.bl true) M') (H : Hp) (only : ∀ b, H b = none ∨ b = a ∧ K.lookup a = none ∧ ∃ o xs, H b = some (.frz o (.lst xs))) (hok : HOk P w H s1.heap) (dn : Den K ⟨[], []⟩ H (.lst (ns.map D.int)) (.ref a)) :
    codeAny (model P w) callerA (.call (.ref fa) ⟨[.ref a], []⟩) (EndsSo s1) s1 := by
  have old : ∀ {b : Addr} {o : Obj}, s1.heap.get? b = some o → H b = none → (hidT s1.heap H).get? b = some o := fun e n => hidT_get e n
  have notA : ∀ {b : Addr} {o : Obj} {es : Array DictEntry} {ep : Nat}, s1.heap.get? b = some o → o.data = .dict es ep → H b = none := fun {b o es ep} e dd => by
    rcases only b with z | ⟨rfl, _, _⟩
    · exact z
    · rw [sc] at e
      cases e
      exact nomatch (show Data.seq vs.toArray _ = Data.dict es ep from dd)
  have nsOld : ∀ {b : Addr} {f : Str → Option Value}, s1.heap.Ns b f → (hidT s1.heap H).Ns b f := fun ⟨o, es, ep, e, dd, r⟩ => ⟨o, es, ep, old e (notA e dd), dd, r⟩
  have kb : K.In (hidT s1.heap H) := fun b o e => old (KX b o e) (by
    rcases only b with z | ⟨rfl, z, _⟩
    · exact z
    · rw [z] at e; cases e)
  have md : Mod K mg (hidT s1.heap H) := ⟨kb, nsOld gl, ⟨mb, nsOld bl, bb⟩, nl.elim fun mc h => ⟨mc, nsOld h.1, h.2⟩⟩
  have e0 : Env0 P w K mg (hidT s1.heap H) callerA [] s1 H := ⟨rfl, md, fun b o e => of_hidT e, Nat.le_of_eq (hidT_size _ _), trivial, fun b hb => absurd (show b ∈ ([] : List Addr) from hb) (by simp), hok, .of_eq gn⟩
  have go := (F _ kb (nsOld gl)).go callerA [] s1 H ⟨[.ref a], []⟩ [.ref a] [.ref a] (fun v _ => v = .bl true) (fun _ _ _ => False) rm rfl e0 (bt s1 (.ref a)) (.cons rfl .nil)
    ⟨rfl, ⟨[], []⟩, [], [.lst (ns.map D.int)], rel0, dens_cons.mpr ⟨_, _, rfl, dn, dens_nil.mpr rfl⟩, by
      rw [hm]
      exact fun ρ' H' v _ _ dv => den_bl.mp dv⟩
  refine codeAny_mono go fun r s2 h => ?_
  cases r with
  | error e =>
    obtain ⟨_, _, _, _, _, _, _, _, _, _, _, _, z⟩ := (show L2.CX P w [] H s1 (fun _ _ _ => False) e s2 from h)
    exact z.elim
  | ok fl =>
    cases fl with
    | ret u =>
      obtain ⟨v, H', os, bare, un, hok', r', q⟩ := h
      cases (show v = .bl true from q)
      cases (show u = Value.bool true from r')
      refine ⟨rfl, OldK.of_keep fun b o e => ?_, os, bare⟩
      rcases only b with z | ⟨_, _, ob, xs, z⟩
      · exact un.keep b o e z (fun y => absurd (show b ∈ ([] : List Addr) from y) (by simp)) (by simp)
      · have z2 := un.frzs b ob _ z
        have e1 := (hok b _ z).1
        have e2 := (hok' b _ z2).1
        rw [e] at e1
        cases e1
        exact e2
    | next => exact h.elim
    | brk => exact h.elim
    | cont => exact h.elim
theorem end_call (KX : K.In s1.heap) (gl : s1.heap.Ns mainGlobals mg) (bl : s1.heap.Ns builtinsNs mb) (bb : ∀ z : Str, z ≠ "__name__" → mb z = bootBuiltins z) (nl : s1.heap.NoLimit) (gn : s1.gens = #[])
    (sc : s1.heap.get? a = some { cls := .type "list", data := .seq vs.toArray }) (hi : IntsAre vs ns) (hl : ns.length ≤ sizeLine) (rm : Room k callerA)
    (F : ∀ base : Heap, K.In base → base.Ns mainGlobals mg → FnG P w K mg base k fa fd [x] (spM K 1 m)) (bt : ∀ (s : Shared) (u : Value), BindsTo s fd ⟨[u], []⟩ [(x, u)])
    {M' : MH} (hm : m [.lst (ns.map D.int)] [] = .ok (.bl true) M') : codeAny (model P w) callerA (.call (.ref fa) ⟨[.ref a], []⟩) (EndsSo s1) s1 := by
  have rv := vals_ints hi
  cases hk : K.lookup a with
  | some o =>
    have e := KX a o hk
    rw [sc] at e
    cases e
    refine end_core KX gl bl bb nl gn sc rm F bt hm (fun _ => none) (fun _ => .inl rfl) (fun b u z => by cases (show (none : Option HO) = some u from z)) ?_
    exact den_lst.mpr ⟨a, ns.map V.int, rfl, .inr (.inr ⟨_, vs.toArray, _, hk, rfl, rfl, rfl, by rw [List.size_toArray, hi.length]; exact hl, by simpa using rv⟩), dens_ints⟩
  | none =>
    have hA : ∀ {b : Addr}, b = a → (if b = a then some (HO.frz { cls := .type "list", data := .seq vs.toArray } (.lst (ns.map V.int))) else none) = some (HO.frz { cls := .type "list", data := .seq vs.toArray } (.lst (ns.map V.int))) := fun h => if_pos h
    refine end_core KX gl bl bb nl gn sc rm F bt hm (fun b => if b = a then some (.frz { cls := .type "list", data := .seq vs.toArray } (.lst (ns.map V.int))) else none) (fun b => ?_) (fun b u z => ?_) ?_
    · by_cases hb : b = a
      · exact .inr ⟨hb, hk, _, _, hA hb⟩
      · exact .inl (if_neg hb)
    · by_cases hb : b = a
      · cases (hA hb).symm.trans z
        subst hb
        exact ⟨sc, by rw [List.length_map]; exact hl, vs, _, rv, sc⟩
      · cases (if_neg hb).symm.trans z
    · refine den_lst.mpr ⟨a, ns.map V.int, rfl, .inl ⟨.inr ⟨_, hA rfl⟩, by simp, by simp⟩, dens_ints⟩
end
/-- THE END of a proof: the law's def is m, and m tells True of every script -/
theorem walk_m {l : PySem.W.OpenLaw} {n k : Nat} {q : Program} {loose : List Str} {XP : (Str → Option Value) → Heap → Prop} {YP : World → Heap → Prop} {d : DefRec} {K : Params → PySem.W.Frag} {x : Str} {m : MF}
    (hn : l.most = some n) (hn2 : n ≤ sizeLine) (hdf : d.params.defaults = []) (rm : Room k callerA) (hY : ∀ (w : World) (h : Heap), YP w h → (K w.params).In h)
    (F : ∀ (w : World) (mg : Str → Option Value) (fa : Addr) (h : Heap), (K w.params).In h → h.Ns mainGlobals mg → mg d.name = some (.ref fa) →
      ∃ fd : FuncData, (∀ (s : Shared) (u : Value), BindsTo s fd ⟨[u], []⟩ [(x, u)]) ∧ ∀ base : Heap, (K w.params).In base → base.Ns mainGlobals mg → FnG l.prog w (K w.params) mg base k fa fd [x] (spM (K w.params) 1 m))
    (hm : ∀ ns : List Int, ns.length ≤ n → (∀ z ∈ ns, Builtin.Int.intBits z ≤ 1048576) → ∃ M', m [.lst (ns.map D.int)] [] = .ok (.bl true) M') : PySem.W.WalkO q loose XP YP l.row.toRowW d [] (fun f vs => PySem.call f vs) := by
  refine Att.attach_callB hn hdf fun w s0 s1 mg mb fa o pm cd doc a vs ns G Y ho hd hcd hmg hobj hints hlen hbits hg => ?_
  obtain ⟨fd, hb, hF⟩ := F w mg fa _ (hY w _ Y) G.T.g hmg
  obtain ⟨M', e⟩ := hm ns hlen hbits
  exact end_call (hY w _ Y) G.T.g G.T.b G.T.builtins G.T.nolimit hg hobj hints (Nat.le_trans hlen hn2) rm hF hb e
end Mi

end

section
/-! Mi, seventeenth part: how a printed derivation is put together. -/
namespace Mi
open PySem PySem.Spec PyProof.Rows L2
abbrev WE (E : XK) : WX := fun c d _ H => E c d H
theorem fm_mk {P : Program} {w : World} {K : PySem.W.Frag} {mg : Str → Option Value} {base : Heap} {k : Nat} {x : Str} {st : Stmt} {dvs : List V} {kws : List (Str × V)} {ps : List Str} {b : MS} {n : Nat} (N : List Str) (a : At K mg x st dvs kws) (S : FnScope N ps (defScope st)) (hn : N.length = n)
    (body : ∀ (f : Addr) (cdv : Value) (A : Around) (outer : List Env) (s : Shared) (H : Hp) (E : XK), Cg (cxOf (L2.CX P w) P w K mg base N x (defScope st) f cdv A outer s H E) (WE E) k →
      PassesOwn (model P w) (cxOf (L2.CX P w) P w K mg base N x (defScope st) f cdv A outer s H E).A (cxOf (L2.CX P w) P w K mg base N x (defScope st) f cdv A outer s H E).env (cxOf (L2.CX P w) P w K mg base N x (defScope st) f cdv A outer s H E).xe →
      SB (cxOf (L2.CX P w) P w K mg base N x (defScope st) f cdv A outer s H E) (WE E) (defBody st) b) : Fm P w K mg base (k + 1) x st dvs kws ps (mFn n b) := by
  obtain ⟨f, fd, hm, F⟩ := a
  refine ⟨f, fd, hm, F, fng_of F S (fun vs H Q E h => h.1) fun cdv A outer s H vs Q E rm gd h => ?_⟩
  obtain ⟨hl, ρ, M, ds, Rl, dd, ok⟩ := h
  have hb := body f cdv A outer s H E ⟨rm, gd, takes_of rfl rfl rfl rfl⟩ (passes_of rfl)
  refine ⟨_, hb, ρ, M, ds.map some ++ List.replicate (n - ds.length) none, Rl, by rw [← hn]; exact en_start dd, ?_⟩
  unfold mFn at ok
  cases e : b (ds.map some ++ List.replicate (n - ds.length) none) M with
  | nx env M1 =>
    rw [e] at ok
    exact fun ρ1 H1 σ1 S1 R1 E1 => ok ρ1 H1 .non S1 R1 (den_non.mpr rfl)
  | ret d M1 => rw [e] at ok; exact ok
  | bk env M1 => rw [e] at ok; exact ok.elim
  | ct env M1 => rw [e] at ok; exact ok.elim
  | exc c fs env M1 =>
    rw [e] at ok
    exact fun ρ1 H1 d σ1 cv cn S1 R1 x1 _ => ok ρ1 H1 d cv cn S1 R1 x1
  | err => rw [e] at ok; exact ok.elim
/-- the same, but not to be looked into by reckoning -/
noncomputable def sealed {α : Type} (a : α) : α := Classical.choose (⟨a, rfl⟩ : ∃ b : α, b = a)
theorem sealed_eq {α : Type} (a : α) : sealed a = a := Classical.choose_spec (⟨a, rfl⟩ : ∃ b : α, b = a)
theorem fm_seal {P : Program} {w : World} {K : PySem.W.Frag} {mg : Str → Option Value} {base : Heap} {k : Nat} {x : Str} {st : Stmt} {dvs : List V} {kws : List (Str × V)} {ps : List Str} {m m' : MF} (e : m = m') (F : Fm P w K mg base k x st dvs kws ps m') : Fm P w K mg base k x st dvs kws ps m := by
  rw [e]
  exact F
theorem fixS_nil {K : PySem.W.Frag} : FixS K [] [] := fun _ _ => dens_nil.mpr rfl
theorem fixS_cons {K : PySem.W.Frag} {d : D} {v : V} {ds : List D} {vs : List V} (h : Fix K d v) (r : FixS K ds vs) : FixS K (d :: ds) (v :: vs) := fun ρ H => dens_cons.mpr ⟨v, vs, rfl, h ρ H, r ρ H⟩
def bitsD : Op1 := fun x M => match x with
  | .int i => .ok (.int (Builtin.Int.intBits i)) M
  | _ => .err
theorem s_bits {X : Cx} {W : WX} {o : Expr} {mo : ME} {apos pos : Pos} (ho : SE X W o mo) (hb : attributeBase o "bit_length" X.env (eval o X.env) = eval o X.env := by rfl) (hl : (apos.endLine == pos.line) = true := by rfl) :
    SE X W (.Call (.Attribute o "bit_length" apos) [] [] pos) (m1 bitsD mo) := pe_imp (pe_bits ho hb hl) fun σ H Q h => by
  refine tm_bind (f := fun d env M1 => bitsD d M1) h fun d M1 ρ1 H1 v env R1 E1 dv q => ?_
  unfold bitsD at q
  split at q
  · exact ⟨_, den_int.mp dv, q ρ1 H1 _ (Stp.refl (K := X.K) (M := M1)) R1 (den_int.mpr rfl)⟩
  · exact q.elim
end Mi

end

section
/-! Mi, eighteenth part: loops and comprehensions as functions, by an invariant; sizes. -/
namespace Mi
open PySem PySem.Spec L2
theorem forGo_inv {g : D → En → Option En} {b : MS} (I : Nat → En → MH → Prop) : ∀ (items : List D) (n : Nat) (env : En) (M : MH), I n env M →
    (∀ (i : Nat) (d : D) (e : En) (M1 : MH), items[i]? = some d → I (n + i) e M1 → ∃ e1 e2 M2, g d e = some e1 ∧ (b e1 M1 = .nx e2 M2 ∨ b e1 M1 = .ct e2 M2) ∧ I (n + i + 1) e2 M2) → ∃ e2 M2, forGo g b items env M = .nx e2 M2 ∧ I (n + items.length) e2 M2
  | [], n, env, M, h, _ => ⟨env, M, rfl, h⟩
  | d :: ds, n, env, M, h, s => by
    obtain ⟨e1, e2, M2, h1, h2, h3⟩ := s 0 d env M rfl h
    obtain ⟨e3, M3, h4, h5⟩ := forGo_inv I ds (n + 1) e2 M2 (by simpa using h3) fun i x e M1 hx hi => by
      have := s (i + 1) x e M1 (by simpa using hx) (by rw [show n + (i + 1) = n + 1 + i by omega]; exact hi)
      rw [show n + 1 + i + 1 = n + (i + 1) + 1 by omega]
      exact this
    refine ⟨e3, M3, ?_, by rw [List.length_cons, show n + (ds.length + 1) = n + 1 + ds.length by omega]; exact h5⟩
    unfold forGo
    rw [h1]
    simp only
    rcases h2 with h2 | h2 <;> (rw [h2]; exact h4)
theorem lcGo_all {f : D → MH → R (Option D)} {h : D → D} {M : MH} : ∀ {items : List D}, (∀ x ∈ items, f x M = .ok (some (h x)) M) → lcGo f items M = .ok (items.map h) M
  | [], _ => rfl
  | x :: xs, q => by
    unfold lcGo
    rw [q x (List.mem_cons_self ..)]
    simp only [R.bind_ok]
    rw [lcGo_all fun y hy => q y (List.mem_cons_of_mem _ hy)]
    rfl
theorem lg_of {a k : Nat} (h : a < 2 ^ k) (hk : 0 < k) : a.log2 < k := by
  by_cases z : a = 0
  · subst z
    rw [show Nat.log2 0 = 0 by rfl]
    exact hk
  · exact (Nat.log2_lt z).mpr h
theorem rangeL_mem {lo : Int} {n : Nat} {d : D} (h : d ∈ rangeL lo n) : ∃ i : Nat, i < n ∧ d = .int (lo + i) := by
  unfold rangeL at h
  obtain ⟨i, h1, h2⟩ := List.mem_map.mp h
  exact ⟨i, List.mem_range.mp h1, h2.symm⟩
theorem map_int_get {bs : List Int} {i : Nat} {d : D} (h : (bs.map D.int)[i]? = some d) : ∃ b, bs[i]? = some b ∧ d = .int b := by
  rw [List.getElem?_map] at h
  obtain ⟨b, h1, h2⟩ := Option.map_eq_some_iff.mp h
  exact ⟨b, h1, h2.symm⟩
theorem flats_ints {bs : List Int} {n : Nat} : flats (bs.map D.int) n = true := by
  induction bs with
  | nil => rfl
  | cons b bs ih =>
    show (flat (.int b) n && flats (bs.map D.int) n) = true
    rw [ih]
    rfl
theorem pys_ints {bs : List Int} : pys (bs.map D.int) = bs.map PyData.int := by
  induction bs with
  | nil => rfl
  | cons b bs ih =>
    show py (.int b) :: pys (bs.map D.int) = _
    rw [ih]
    rfl
theorem atI_at {α : Type} {xs : List α} {i : Nat} {x : α} (h : xs[i]? = some x) : L2.atI xs (i : Int) = some x := L2.atI_nat h
theorem rng1_n {j : Int} {M : MH} {n : Nat} (h : j = n) (hn : n < 1000000) : rng1D [.int j] M = .ok (rangeL 0 n) M := by
  subst h
  unfold rng1D
  simp only
  rw [if_pos (show (n : Int).natAbs < lim by rw [Int.natAbs_natCast]; exact hn), Int.toNat_natCast]
theorem lim_n : lim = 1000000 := rfl
theorem congr2 {α β γ : Type} {f : α → β → γ} {a a' : α} {b b' : β} (h : a = a') (k : b = b') : f a b = f a' b' := by rw [h, k]
/-! ### what the top has written -/
section
variable {K : PySem.W.Frag} {h : Heap} {mg : Str → Option Value} {x : Str} {st : Stmt} {f : Addr} {oc : Value} {od an : Option Addr} {sl : Array (Option Value)} {kV dc pm cd ct : Value}
theorem at_mk (X : K.In h) (G : h.Ns mainGlobals mg) (a : PySem.W.nsIn K mainGlobals x = some (some (.ref f))) (l : K.lookup f = some ⟨oc, od, .func (PySem.W.fnOf x x (defArgs st) (defBody st) (defScope st) .none kV dc pm an cd ct), sl⟩) (c : PySem.W.codeIn K cd x = true) (k : PySem.W.keepIn K (.ref f) = true) : At K mg x st [] [] :=
  ⟨f, _, PySem.W.mg_of X G a, ⟨⟨oc, od, .none, kV, dc, pm, an, cd, ct, sl, rfl, l, c, .inl ⟨rfl, rfl⟩, .inl rfl⟩, k⟩⟩
theorem at_mk1 {Dk : Addr} {y z : Str} {u : Tok} (X : K.In h) (G : h.Ns mainGlobals mg) (a : PySem.W.nsIn K mainGlobals x = some (some (.ref f))) (l : K.lookup f = some ⟨oc, od, .func (PySem.W.fnOf x x (defArgs st) (defBody st) (defScope st) .none (.ref Dk) dc pm an cd ct), sl⟩) (c : PySem.W.codeIn K cd x = true) (k : PySem.W.keepIn K (.ref f) = true)
    (d : PySem.W.nsIn K Dk y = some (some (.str z u))) : At K mg x st [] [(y, .str z)] :=
  ⟨f, _, PySem.W.mg_of X G a, ⟨⟨oc, od, .none, .ref Dk, dc, pm, an, cd, ct, sl, rfl, l, c, .inl ⟨rfl, rfl⟩, .inr ⟨Dk, rfl, fun q hq => by
    rw [List.mem_singleton.mp hq]
    exact ⟨_, d, _, rfl⟩⟩⟩, k⟩⟩
/-- the law's own def: its object is one -/
theorem law_fd {P : Program} {w : World} {k : Nat} {ps : List Str} {m : MF} {fa : Addr} (X : K.In h) (G : h.Ns mainGlobals mg) (hfa : mg x = some (.ref fa)) (a : PySem.W.nsIn K mainGlobals x = some (some (.ref f))) (l : K.lookup f = some ⟨oc, od, .func (PySem.W.fnOf x x (defArgs st) (defBody st) (defScope st) .none kV dc pm an cd ct), sl⟩)
    {base : Heap} (F : Fm P w K mg base k x st [] [] ps m) : FnG P w K mg base k fa (PySem.W.fnOf x x (defArgs st) (defBody st) (defScope st) .none kV dc pm an cd ct) ps (spM K ps.length m) := by
  obtain ⟨f2, fd2, e1, e2, e3⟩ := F.ex
  have e4 := PySem.W.mg_of X G a
  rw [hfa] at e1 e4
  cases e1
  cases e4
  obtain ⟨_, _, _, _, _, _, _, _, _, _, _, l2, _⟩ := e2.ex
  rw [l] at l2
  cases l2
  exact e3
end
theorem tab1 {K : PySem.W.Frag} {w : World} {p : Addr} {es : Array DictEntry} {n : Nat} {z : Str} {u : Value} {v : L2.V} {d : D} (l : K.lookup p = some ⟨.type "dict", none, .dict es n, #[]⟩) (kl : PySem.W.KeysLit w.params es.toList) (q : PySem.W.nsIn K p z = some (some u)) (r : L2.RelV v u) (f : Fix K d v) : ∃ v, L2.KDct K w p z v ∧ Fix K d v := ⟨v, ⟨es, n, u, l, kl, q, r⟩, f⟩
end Mi

end

section
/-! Mi, nineteenth part: constants of the text, all, any, list, min, max, += of a name. -/
namespace Mi
open PySem PySem.Spec PyProof.Rows L2
/-! ### constants of the text -/
theorem fix_bl {K : PySem.W.Frag} {b : Bool} : Fix K (.bl b) (.bl b) := fun _ _ => den_bl.mpr rfl
theorem fix_non {K : PySem.W.Frag} : Fix K .non .non := fun _ _ => den_non.mpr rfl
/-- a tuple that stands in the text -/
theorem fix_tup {K : PySem.W.Frag} {p : Addr} {o : Obj} {its : Array Value} {n : Nat} {ds : List D} {vs : List V} (l : K.lookup p = some o) (hc : o.cls = .type "tuple") (hd : o.data = .seq its n) (hz : its.size ≤ sizeLine) (r : Vals vs its.toList) (f : FixS K ds vs) : Fix K (.tup ds) (.ref p) :=
  fun ρ H => den_tup.mpr ⟨p, vs, rfl, .inr ⟨o, its, n, l, hc, hd, hz, r⟩, f ρ H⟩
section
variable {X : Cx}
/-! ### all, any of truths in a list -/
def blsD : List D → Option (List Bool)
  | [] => some []
  | .bl b :: ds => (blsD ds).map (b :: ·)
  | _ :: _ => none
theorem blsD_eq : ∀ {ds : List D} {bs : List Bool}, blsD ds = some bs → ds = bs.map D.bl
  | [], bs, e => by cases e; rfl
  | .bl b :: ds, bs, e => by
    obtain ⟨ms, e1, e2⟩ := Option.map_eq_some_iff.mp (show (blsD ds).map (b :: ·) = some bs from e)
    subst e2
    rw [List.map_cons, blsD_eq e1]
  | .non :: _, _, e => by cases e
  | .int _ :: _, _, e => by cases e
  | .str _ :: _, _, e => by cases e
  | .ty _ :: _, _, e => by cases e
  | .adr _ :: _, _, e => by cases e
  | .ref _ :: _, _, e => by cases e
  | .tup _ :: _, _, e => by cases e
  | .lst _ :: _, _, e => by cases e
  | .dct _ _ :: _, _, e => by cases e
  | .fn _ :: _, _, e => by cases e
  | .exo _ _ _ _ :: _, _, e => by cases e
theorem blsD_map (bs : List Bool) : blsD (bs.map D.bl) = some bs := by
  induction bs with
  | nil => rfl
  | cons b bs ih =>
    show (blsD (bs.map D.bl)).map (b :: ·) = _
    rw [ih]
    rfl
theorem dens_bls {K : PySem.W.Frag} {ρ : Rho} {H : Hp} {bs : List Bool} {vs : List V} (h : Dens K ρ H (bs.map D.bl) vs) : vs = bs.map V.bl := by
  induction bs generalizing vs with
  | nil => exact dens_nil.mp h
  | cons b bs ih =>
    obtain ⟨v, r, rfl, h1, h2⟩ := dens_cons.mp h
    rw [den_bl.mp h1, ih h2]
    rfl
def anyD : OpN := fun xs M => match xs with
  | [.lst ds] => match blsD ds with
    | some bs => .ok (.bl (bs.any id)) M
    | none => .err
  | _ => .err
def allD : OpN := fun xs M => match xs with
  | [.lst ds] => match blsD ds with
    | some bs => .ok (.bl (bs.all id)) M
    | none => .err
  | _ => .err
theorem q_any : QuietN anyD := by
  intro x M c fs M' e
  unfold anyD at e
  (repeat' split at e) <;> cases e
theorem q_all : QuietN allD := by
  intro x M c fs M' e
  unfold allD at e
  (repeat' split at e) <;> cases e
theorem o_any (hc : X.calm = true) : OpNR X (.builtin "any") anyD := by
  intro ρ M H xs vs Q Rl dv h
  unfold anyD at h
  split at h
  · obtain ⟨v, rfl, d⟩ := dens_one dv
    obtain ⟨a, ys, rfl, hs, hd⟩ := den_lst.mp d
    split at h
    · rename_i bs e
      rw [blsD_eq e] at hd
      rw [dens_bls hd] at hs
      exact ⟨_, cr_any hc, a, bs, rfl, hs.sq, here Rl h (den_bl.mpr rfl)⟩
    · exact h.elim
  · exact h.elim
theorem o_all (hc : X.calm = true) : OpNR X (.builtin "all") allD := by
  intro ρ M H xs vs Q Rl dv h
  unfold allD at h
  split at h
  · obtain ⟨v, rfl, d⟩ := dens_one dv
    obtain ⟨a, ys, rfl, hs, hd⟩ := den_lst.mp d
    split at h
    · rename_i bs e
      rw [blsD_eq e] at hd
      rw [dens_bls hd] at hs
      exact ⟨_, cr_all hc, a, bs, rfl, hs.sq, here Rl h (den_bl.mpr rfl)⟩
    · exact h.elim
  · exact h.elim

/-! ### list(t): a list that is only read -/
def listOfD : OpN := fun xs M => match xs with
  | [.tup ds] => .ok (.lst ds) M
  | [.lst ds] => .ok (.lst ds) M
  | [.ref l] => match M[l]? with
    | some (.lst ds) => .ok (.lst ds) M
    | _ => .err
  | _ => .err
theorem q_listOf : QuietN listOfD := by
  intro x M c fs M' e
  unfold listOfD at e
  (repeat' split at e) <;> cases e
theorem o_listOf : OpNR X (.type "list") listOfD := by
  intro ρ M H xs vs Q Rl dv h
  unfold listOfD at h
  split at h
  · obtain ⟨v, rfl, d⟩ := dens_one dv
    obtain ⟨a, ys, rfl, hs, hd⟩ := den_tup.mp d
    exact ⟨_, call_list_of, a, ys, rfl, .inr hs, newL Rl h hd⟩
  · obtain ⟨v, rfl, d⟩ := dens_one dv
    obtain ⟨a, ys, rfl, hs, hd⟩ := den_lst.mp d
    exact ⟨_, call_list_of, a, ys, rfl, .inl hs.sq, newL Rl h hd⟩
  · obtain ⟨v, rfl, d⟩ := dens_one dv
    split at h
    · rename_i ds hm
      obtain ⟨a, ys, rfl, hs, hd⟩ := cell_lst Rl d hm
      exact ⟨_, call_list_of, a, ys, rfl, .inl (SqL.of hs), newL Rl h hd⟩
    · exact h.elim
  · exact h.elim

/-! ### min(i, j), max(i, j) -/
def max2D : OpN := fun xs M => match xs with
  | [.int i, .int j] => .ok (.int (max i j)) M
  | _ => .err
def min2D : OpN := fun xs M => match xs with
  | [.int i, .int j] => .ok (.int (min i j)) M
  | _ => .err
theorem q_max2 : QuietN max2D := by
  intro x M c fs M' e
  unfold max2D at e
  split at e <;> cases e
theorem q_min2 : QuietN min2D := by
  intro x M c fs M' e
  unfold min2D at e
  split at e <;> cases e
theorem o_max2 (hc : X.calm = true) : OpNR X (.builtin "max") max2D := by
  intro ρ M H xs vs Q Rl dv h
  unfold max2D at h
  split at h
  · rename_i i j
    refine ⟨_, call_max2 hc, i, j, dens_ints_inv (ns := [i, j]) dv, ?_⟩
    have e : (if j > i then j else i) = max i j := by split <;> omega
    rw [e]
    exact here Rl h (den_int.mpr rfl)
  · exact h.elim
theorem o_min2 (hc : X.calm = true) : OpNR X (.builtin "min") min2D := by
  intro ρ M H xs vs Q Rl dv h
  unfold min2D at h
  split at h
  · rename_i i j
    refine ⟨_, call_min2 hc, i, j, dens_ints_inv (ns := [i, j]) dv, ?_⟩
    have e : (if j < i then j else i) = min i j := by split <;> omega
    rw [e]
    exact here Rl h (den_int.mpr rfl)
  · exact h.elim

/-! ### name += e, of whole numbers -/
variable {W : WX}
def cAug (i : Nat) (m : ME) : MS := fun env M => match env[i]? with
  | some (some (.int k)) => andS (m env M) env fun d M1 => match d with
    | .int j => .nx (env.set i (some (.int (k + j)))) M1
    | _ => .err
  | _ => .err
theorem c_aug {i : Nat} {x : Str} {e : Expr} {pos pos' : Pos} {m : ME} (hN : X.N.Nodup) (h : SE X W e m) (hi : X.N[i]? = some x := by rfl) (hx : Loc X.env.scope x := by first | exact .inl rfl | exact .inr rfl)
    (hf : X.fn x = true ∨ X.env.scope.names.lookup x = some .local := by first | exact .inl rfl | exact .inr rfl | assumption) : SS X W (.AugAssign (.Name x pos') .Add e pos) (cAug i m) := by
  refine ps_imp (ps_aug hN hi hx h ip_add hf) fun D σ H q => ?_
  obtain ⟨ρ, M, env, Rl, E, q⟩ := q
  unfold cAug at q
  split at q
  · rename_i k ek
    obtain ⟨v, h1, h2⟩ := E.get i _ ek
    rw [den_int] at h2
    subst h2
    refine ⟨.int k, h1, ?_⟩
    refine andS_stp Rl E q fun d M1 ρ1 H1 v S R1 E1 dv q1 => ?_
    split at q1
    · rename_i j
      exact ⟨k, j, rfl, den_int.mp dv, q1 ρ1 H1 _ (Stp.refl (K := X.K) (M := M1)) R1 (E1.set i (den_int.mpr rfl))⟩
    · exact q1.elim
  · exact q.elim
end
end Mi

end

section
/-! Mi, twentieth part: methods of built-in types; a dict is laid. -/
namespace Mi
open PySem PySem.Spec PyProof.Rows L2
/-- what a method is asked of -/
def rcv (T : String) (x : D) (M : MH) : Bool := match x with
  | .str _ => T == "str"
  | .lst _ => T == "list"
  | .ref l => match M[l]? with
    | some (.lst _) => T == "list"
    | some (.dct _) => T == "dict"
    | _ => false
  | _ => false
theorem rcv_ty {K : PySem.W.Frag} {ρ : Rho} {M : MH} {H : Hp} {T : String} {x : D} {v : V} (Rl : Rel K ρ M H) (d : Den K ρ H x v) (r : rcv T x M = true) : tyV K T v H := by
  unfold rcv at r
  split at r
  · rw [den_str] at d
    subst d
    exact eq_of_beq r
  · obtain ⟨a, xs, rfl, hs, _⟩ := den_lst.mp d
    exact .inl ⟨eq_of_beq r, xs, hs.sq⟩
  · split at r
    · rename_i ds hm
      obtain ⟨a, ys, rfl, hs, hd⟩ := cell_lst Rl d hm
      exact .inl ⟨eq_of_beq r, ys, SqL.of hs⟩
    · rename_i kvs hm
      obtain ⟨p, o, rfl, hl, ho⟩ := den_ref.mp d
      obtain ⟨b, ks, h1, h2, h3⟩ := Rl.obj _ _ hm
      rw [hl] at h1
      cases h1
      have e := ho b rfl
      subst e
      exact .inr (.inr (.inl ⟨eq_of_beq r, .inl ⟨ks, h2⟩⟩))
    · cases r
  · cases r
abbrev OpM := D → List D → MH → R D
def OpMR (X : Cx) (id : String) (g : OpM) : Prop := ∀ ρ M H x xs v vs Q, Rel X.K ρ M H → Den X.K ρ H x v → Dens X.K ρ H xs vs → ROk X.K ρ H Q (g x xs M) → ∃ r, MtR X id r ∧ r v vs H Q
def QuietM (g : OpM) : Prop := ∀ x xs M c fs M', g x xs M ≠ .exc c fs M'
def mMt (T : String) (g : OpM) (mo : ME) (ma : MA) : ME := fun env M => (mo env M).bind fun x M1 => if rcv T x M1 = true then (ma env M1).bind fun xs M2 => g x xs M2 else .err
section
variable {X : Cx} {W : WX} {o e : Expr} {es : List Expr} {mo : ME} {ma : MA} {name : Str} {apos cpos : Pos} {T id : String} {g : OpM}
theorem s_mt (pa : PlainAttrs T) (slot : Slot T name id) (hty : typeOf (.builtin id) = pure (.type "method_descriptor")) (om : OpMR X id g) (q : QuietM g) (ho : SE X W o mo) (ha : SA X W (e :: es) ma)
    (hbase : attributeBase o name X.env (eval o X.env) = eval o X.env := by rfl)
    (hfew : ((backTo cpos (starEach (e :: es) X.env)).all (fun x => !x.1) && (backToKw cpos (keywordEach [] X.env)).all (fun x => x.1.isSome) && decide ((e :: es).length + ([] : List Keyword).length + (if ([] : List Keyword).isEmpty then 0 else 1) < 30)) = true := by rfl)
    (hline : (apos.endLine == cpos.line) = true := by rfl) (hs : starEach (e :: es) X.env = (false, eval e X.env) :: starEach es X.env := by rfl) (hpl : (backTo cpos (starEach es X.env)).any (·.1) = false := by rfl) :
    SE X W (.Call (.Attribute o name apos) (e :: es) [] cpos) (mMt T g mo ma) := by
  refine ⟨fun pins s σ H Q I h => ?_⟩
  refine wpAny_Call_method_late hbase hfew hline rfl (thn (ho.run pins s σ H (fun x H1 => ∃ ρ M env d, Rel X.K ρ M H1 ∧ EnR X.K ρ H1 env σ ∧ Den X.K ρ H1 d x ∧ rcv T d M = true ∧ Ok X.K ρ H1 (DnD X.K) (fun c d H' => W c d σ H') Q ((ma env M).bind fun xs M2 => g d xs M2)) I ?_) fun v s1 ⟨x, H1, I1, r1, ρ, M, env, d, R1, E1, dx, rc, q1⟩ => ?_)
  · refine tm_bind (f := fun x env M1 => if rcv T x M1 = true then (ma env M1).bind fun xs M2 => g x xs M2 else .err) h fun x M1 ρ1 H1 v env R1 E1 dx h => ?_
    split at h
    · rename_i rc
      exact ⟨ρ1, M1, env, x, R1, E1, dx, rc, h⟩
    · exact h.elim
  obtain ⟨h1, h2⟩ := tyV_is I1 r1 (rcv_ty R1 dx rc)
  refine ⟨T, id, pa, slot, hty, h1, h2, ?_⟩
  have hA := ha.run cpos pins s1 σ H1 (fun vs H2 => ∃ r, MtR X id r ∧ r x vs H2 Q) I1 ⟨ρ, M, env, R1, E1, q1.bind fun xs M2 ρ2 H2 vs _ S R2 dv h => om ρ2 M2 H2 d xs x vs Q R2 (Den.step R1 S _ _ dx) dv (ok_quiet (q d xs M2) h)⟩
  rw [hs] at hA ⊢
  refine Calls.callWith_builtin (by show (false || (backTo cpos (starEach es X.env)).any (·.1)) = false; rw [hpl]; rfl) (Calls.evalArgs_plain ?_)
  exact thn hA fun us s2 ⟨vs, H2, I2, r2, r, hm, q2⟩ => hm pins s2 σ H2 x vs v us Q I2 r1 r2 q2
/-! ### xs.append(y) -/
def appD : OpM := fun x xs M => match x with
  | .ref l => match M[l]? with
    | some (.lst ds) => match xs with
      | [y] => if ds.length < lim then .ok .non (M.set l (.lst (ds ++ [y]))) else .err
      | _ => .err
    | _ => .err
  | _ => .err
theorem q_app : QuietM appD := by
  intro x xs M c fs M' e
  unfold appD at e
  (repeat' split at e) <;> cases e
theorem o_app : OpMR X "list.append" appD := by
  intro ρ M H x xs v vs Q Rl dx dv h
  unfold appD at h
  split at h
  · rename_i l
    obtain ⟨p, u, rfl, hl, ho⟩ := den_ref.mp dx
    split at h
    · rename_i ds hm
      obtain ⟨b, ys, h1, h2, h3⟩ := Rl.obj l _ hm
      have hl2 := h1
      rw [hl] at h1
      cases h1
      have ep := ho b rfl
      subst ep
      split at h
      · rename_i y
        obtain ⟨w, rfl, dw⟩ := dens_one dv
        split at h
        · rename_i hz
          have S : Stp ρ H ρ (upd H b (.lst (ys ++ [w]))) := Stp.write hl2
          refine ⟨_, mt_append, b, ys, w, rfl, rfl, h2, by rw [← h3.length]; exact lim_lt hz, ?_⟩
          exact h ρ _ .non S (Rl.write hl2 ⟨b, ys ++ [w], hl2, upd_same, Dens.step Rl S _ _ (h3.append (dens_cons.mpr ⟨w, [], rfl, dw, dens_nil.mpr rfl⟩))⟩) (den_non.mpr rfl)
        · exact h.elim
      · exact h.elim
    · exact h.elim
  · exact h.elim
theorem s_app (ho : SE X W o mo) (ha : SA X W (e :: es) ma)
    (hbase : attributeBase o "append" X.env (eval o X.env) = eval o X.env := by rfl)
    (hfew : ((backTo cpos (starEach (e :: es) X.env)).all (fun x => !x.1) && (backToKw cpos (keywordEach [] X.env)).all (fun x => x.1.isSome) && decide ((e :: es).length + ([] : List Keyword).length + (if ([] : List Keyword).isEmpty then 0 else 1) < 30)) = true := by rfl)
    (hline : (apos.endLine == cpos.line) = true := by rfl) (hs : starEach (e :: es) X.env = (false, eval e X.env) :: starEach es X.env := by rfl) (hpl : (backTo cpos (starEach es X.env)).any (·.1) = false := by rfl) :
    SE X W (.Call (.Attribute o "append" apos) (e :: es) [] cpos) (mMt "list" appD mo ma) := s_mt PySem.F.plainAttrs_list PySem.F.slot_list_append PySem.F.type_list_append o_app q_app ho ha hbase hfew hline hs hpl
end
end Mi

end

section
/-! Mi, twenty-first part: try .. except one class. -/
namespace Mi
open PySem PySem.Spec PyProof.Rows L2
/-- ex: which classes the handler takes -/
def cTry (ex : Str → Option Bool) (b h : MS) : MS := fun env M => match b env M with
  | .exc c fs env' M' => match ex c with
    | some true => h env' M'
    | some false => .exc c fs env' M'
    | none => .err
  | r => r
section
variable {X : Cx} {W : WX}
theorem c_try {x : Str} {c : Value} {body suite : List Stmt} {b0 : Stmt} {np pos pos' : Pos} {b h : MS} {ex : Str → Option Bool} (hs : X.stack = X.env :: X.outer) (hf : X.env.frame = some X.env.locals) (hc : Names X x c) (tk : Takes X W)
    (hx : ∀ k r, ex k = some r → ∀ cv, CN X.K k cv → PySem.W.exmOne X.K cv c = some r)
    (hb : ∀ (W' : WX) (pn : List (Addr × Obj)) (xe : Value → Shared → Prop), Takes (X.tr pn xe) W' → PassesOwn (model X.prog X.w) X.A X.env xe → SB (X.tr pn xe) W' body b)
    (hsu : ∀ (a : Addr) (oe : Obj) (cls : Value) (d : Option Addr) (pn : List (Addr × Obj)), Zc cls d oe → (∃ vs, oe.data = .fields vs) → SB (X.suite a ((a, oe) :: pn)) W (b0 :: suite) h) :
    SS X W (.Try body [.ExceptHandler (some (.Name x np)) none (b0 :: suite) pos'] [] [] pos) (cTry ex b h) := by
  refine ps_imp (ps_try_only (tb := fun W' => ts X.K W' b) (ts := fun _ _ _ => ts X.K W h) hs hf hc tk (fun W' pn xe t p => hb W' pn xe t p) fun a oe cls d pn z f => hsu a oe cls d pn z f) fun D σ H q => ?_
  obtain ⟨ρ, M, env, Rl, E, q⟩ := q
  refine ⟨ρ, M, env, Rl, E, ?_⟩
  unfold cTry at q
  cases e : b env M with
  | nx env' M' => rw [e] at q; exact q
  | ret d M' => rw [e] at q; exact q
  | bk env' M' => rw [e] at q; exact q
  | ct env' M' => rw [e] at q; exact q
  | err => rw [e] at q; exact q
  | exc cls fs env' M' =>
    rw [e] at q
    simp only at q
    intro ρ' H' d σ' cv cn S R' xr E'
    split at q
    · rename_i ec
      exact ⟨true, hx _ _ ec _ cn, fun _ a _ => ⟨ρ', M', env', R', E', q.step S⟩, fun z => nomatch z⟩
    · rename_i ec
      exact ⟨false, hx _ _ ec _ cn, (fun z => nomatch z), fun _ => q ρ' H' d σ' cv cn S R' xr E'⟩
    · exact q.elim
/-! ### raise X(..) of an own class without an own __init__ -/
theorem c_raise0 {C : Addr} {bmB : List Value} {B newId initId : String} {x : Str} {p : Pos} {e : Expr} {es : List Expr} {ma : MA} {pos cpos : Pos} (hc : X.calm = true) (tk : Takes X W) (F : ExcBaseFacts B newId initId bmB) (q : PySem.W.excIn X.K C bmB newId = true) (gC : X.mg x = some (.ref C)) (cn : CN X.K x (.ref C))
    (kC : PySem.W.keepIn X.K (.ref C) = true) (r : Raises X (.ref C)) (ha : SA X W (e :: es) ma) (hg : Gl X x := by rfl) (hdb : (x == ("__debug__" : Str)) = false := by decide)
    (he : starEach (e :: es) X.env = (false, eval e X.env) :: starEach es X.env := by rfl) (hpl : (backTo cpos (starEach es X.env)).any (·.1) = false := by rfl) :
    SS X W (.Raise (some (.Call (.Name x p) (e :: es) [] cpos)) none pos) (fun env M => andS (ma env M) env fun ds M1 => if ds.length ≤ lim then .exc x none env M1 else .err) := by
  refine ps_imp (ps_raise hc tk (pmk_ownA F q gC kC r hg ha hdb he hpl)) fun D σ H w => ?_
  obtain ⟨ρ, M, env, Rl, E, w⟩ := w
  refine andS_tm Rl E w fun ds M1 ρ1 H1 vs R1 E1 dv q1 => ?_
  split at q1
  · rename_i hz
    refine ⟨by rw [← dv.length]; exact lim_le hz, ?_⟩
    exact q1 ρ1 H1 none σ _ cn (Stp.refl (K := X.K) (M := M1)) R1 rfl E1
  · exact q1.elim
end
end Mi

end

section
/-! Mi, twenty-second part: what holds within a try's body and its suite; join; {}. -/
namespace Mi
open PySem PySem.Spec PyProof.Rows L2
theorem Cg.tr {X : Cx} {W W' : WX} {k : Nat} {pn : List (Addr × Obj)} {xe : Value → Shared → Prop} (c : Cg X W k) (t : Takes (X.tr pn xe) W') : Cg (X.tr pn xe) W' k := ⟨c.rm, c.gd, t⟩
theorem takesW0 {X : Cx} : Takes X W0 := fun _ _ h => by
  obtain ⟨_, _, _, _, _, _, _, _, _, _, _, _, _, _, _, _, w⟩ := h
  exact w.elim
theorem Cg.blk {X : Cx} {W : WX} {k : Nat} {s : Shared} {H : Hp} {scope : Scope} {env : Env} {fp : List Addr} (c : Cg X W k) : Cg (X.blk s H scope env fp) W0 k := ⟨c.rm, c.gd, takesW0⟩
section
variable {X : Cx} {W : WX}
/-! ### sep.join(xs) -/
def strsD : List D → Option (List Str)
  | [] => some []
  | .str b :: ds => (strsD ds).map (b :: ·)
  | _ :: _ => none
theorem strsD_eq : ∀ {ds : List D} {bs : List Str}, strsD ds = some bs → ds = bs.map D.str
  | [], bs, e => by cases e; rfl
  | .str b :: ds, bs, e => by
    obtain ⟨ms, e1, e2⟩ := Option.map_eq_some_iff.mp (show (strsD ds).map (b :: ·) = some bs from e)
    subst e2
    rw [List.map_cons, strsD_eq e1]
  | .non :: _, _, e => by cases e
  | .int _ :: _, _, e => by cases e
  | .bl _ :: _, _, e => by cases e
  | .ty _ :: _, _, e => by cases e
  | .adr _ :: _, _, e => by cases e
  | .ref _ :: _, _, e => by cases e
  | .tup _ :: _, _, e => by cases e
  | .lst _ :: _, _, e => by cases e
  | .dct _ _ :: _, _, e => by cases e
  | .fn _ :: _, _, e => by cases e
  | .exo _ _ _ _ :: _, _, e => by cases e
theorem dens_strs {K : PySem.W.Frag} {ρ : Rho} {H : Hp} {bs : List Str} {vs : List V} (h : Dens K ρ H (bs.map D.str) vs) : vs = bs.map V.str := by
  induction bs generalizing vs with
  | nil => exact dens_nil.mp h
  | cons b bs ih =>
    obtain ⟨v, r, rfl, h1, h2⟩ := dens_cons.mp h
    rw [den_str.mp h1, ih h2]
    rfl
def joinD : OpM := fun x xs M => match x, xs with
  | .str a, [.lst ds] => match strsD ds with
    | some ys => if (ys.map (·.length)).sum + ys.length * a.length ≤ lim then .ok (.str (Txt.join a ys)) M else .err
    | none => .err
  | _, _ => .err
theorem q_joinD : QuietM joinD := by
  intro x xs M c fs M' e
  unfold joinD at e
  (repeat' split at e) <;> cases e
theorem o_joinD : OpMR X "str.join" joinD := by
  intro ρ M H x xs v vs Q Rl dx dv h
  unfold joinD at h
  split at h
  · rename_i a ds
    rw [den_str] at dx
    subst dx
    obtain ⟨w, rfl, dw⟩ := dens_one dv
    obtain ⟨p, us, rfl, hs, hd⟩ := den_lst.mp dw
    split at h
    · rename_i ys e
      rw [strsD_eq e] at hd
      rw [dens_strs hd] at hs
      split at h
      · rename_i hz
        exact ⟨_, mt_join, a, p, ys, rfl, rfl, .inl hs.sq, Nat.le_trans hz (by decide), here Rl h (den_str.mpr rfl)⟩
      · exact h.elim
    · exact h.elim
  · exact h.elim
/-! ### {} -/
def mDct0 : ME := fun _ M => .ok (.ref M.length) (M ++ [.dct []])
theorem s_dct0 {pos : Pos} : SE X W (.Dict [] [] pos) mDct0 := pe_imp pe_dnewK fun σ H Q h => by
  obtain ⟨ρ, M, env, Rl, E, h⟩ := h
  intro p hp
  refine h (ρ.add p) _ (.ref p) (Stp.cell hp) (Rl.cell hp ⟨p, [], Rl.lastAt, upd_same, .nil⟩) ?_
  exact den_ref.mpr ⟨p, some p, rfl, Rl.lastAt, fun b e => (Option.some.inj e).symm⟩
end
end Mi

end

section
/-! Mi, part 23: exceptions that were caught, as values: try .. except X as e, isinstance, their fields. -/
namespace Mi
open PySem PySem.Spec PyProof.Rows L2

theorem exv_ok {P : Program} {w : World} {H : Hp} {h : Heap} {a : Addr} {cv : Value} {d : Option Addr} {oe : Obj} {vs : Array Value} (e : h.get? a = some oe) (z : Zc cv d oe) (f : oe.data = .fields vs) : ObjOk P w H h a (ExV cv d a) :=
  ⟨⟨oe, vs, e, z, f⟩, ⟨oe, e⟩, fun _ _ ⟨o, v, q, r⟩ k => ⟨o, v, k o q, r⟩⟩
theorem exv_at {P : Program} {w : World} {H : Hp} {h : Heap} {a : Addr} {cv : Value} {d : Option Addr} (ok : HOk P w H h) (e : H a = some (ExV cv d a)) : ∃ (oe : Obj) (vs : Array Value), h.get? a = some oe ∧ Zc cv d oe ∧ oe.data = .fields vs := by
  have x : ObjOk P w H h a (.ext fun h => ∃ (oe : Obj) (vs : Array Value), h.get? a = some oe ∧ Zc cv d oe ∧ oe.data = .fields vs) := ok a _ e
  exact x.1
section
variable {X : Cx} {pins : List (Addr × Obj)} {σ : L2.St} {H : Hp} {s : Shared}
/-- a thing that stands there already is told from now on -/
theorem inv_told {a : Addr} {o : HO} (I : L2.Inv X pins σ H s) (na : H a = none) (n0 : X.s_0.heap.get? a = none) (nL : a ≠ X.env.locals) (nC : ∀ x c, X.env.cells.lookup x = some c → c ≠ a) (nP : ∀ p ∈ X.pn ++ pins, p.1 ≠ a)
    (new : ObjOk X.prog X.w (upd H a o) s.heap a o) : L2.Inv X pins σ (upd H a o) s :=
  have ne : ∀ {b : Addr} {u : HO}, H b = some u → b ≠ a := fun q => ne_of_none q na
  { ok := I.ok, os := I.os, bare := I.bare, loc := I.loc, cell := I.cell, len := I.len
    base := ⟨I.base.keep, I.base.slot, fun b u q n x => by
      have nb : b ≠ a := fun e => by rw [e, n0] at q; cases q
      rw [upd_ne nb]
      exact I.base.free b u q n x, I.base.there, fun b xs q => by
      have z := I.base.tups b xs q
      rw [upd_ne (ne z)]; exact z, fun b u v q => by
      have z := I.base.frzs b u v q
      rw [upd_ne (ne z)]; exact z, fun b ps q => by
      obtain ⟨m, z⟩ := I.base.tbls b ps q
      exact ⟨m, by rw [upd_ne (ne z)]; exact z⟩⟩
    free := by rw [upd_ne (Ne.symm nL)]; exact I.free
    freeC := fun x c e => by rw [upd_ne (nC x c e)]; exact I.freeC x c e
    pin := fun p hp => by
      obtain ⟨q1, q2, q3⟩ := I.pin p hp
      exact ⟨q1, by rw [upd_ne (nP p hp)]; exact q2, q3⟩
    hok := I.hok.laidN (fun _ _ q => q) na new }
theorem inv_out {a : Addr} {pn' : List (Addr × Obj)} (I : L2.Inv (X.suite a (X.pn ++ pins)) pn' σ H s) (ok : X.Ok) : L2.Inv X pins σ H s :=
  { ok := ok, os := I.os, bare := I.bare, base := I.base, loc := I.loc, cell := I.cell, free := I.free, freeC := I.freeC, hok := I.hok, len := I.len, pin := fun p hp => I.pin p (List.mem_append_left _ hp) }
theorem inv_in {a : Addr} (I : L2.Inv X pins σ H s) : L2.Inv (X.suite a (X.pn ++ pins)) [] σ H s :=
  { ok := I.ok.suite _ _, os := I.os, bare := I.bare, base := I.base, loc := I.loc, cell := I.cell, free := I.free, freeC := I.freeC, hok := I.hok, len := I.len, pin := fun p hp => I.pin p (by rw [List.append_nil] at hp; exact hp) }
end

/-- the ends of a suite whose name goes behind it -/
def goneEnds (i : Nat) (D : Ends) : Ends := { nx := fun τ G => D.nx (τ.set i none) G, rt := D.rt, bk := fun τ G => D.bk (τ.set i none) G, ct := fun τ G => D.ct (τ.set i none) G }
/-- what the clause wishes; the exception is told at its address -/
def wVal (K : PySem.W.Frag) (c : Value) (i : Nat) (ts : Value → Option Addr → Addr → TS) (Wout : WX) (D : Ends) : WX := fun cls d τ G =>
  ∃ b, PySem.W.exmOne K cls c = some b ∧ (b = true → ∀ a, G a = none → ts cls d a (goneEnds i D) (τ.set i (some (.ref a))) (upd G a (ExV cls d a))) ∧ (b = false → Wout cls d τ G)
/-- what is done with an exception of the body -/
def caught (X : Cx) (pins : List (Addr × Obj)) (D : Ends) (hd : List ExceptHandler) : Value → Shared → Prop := fun e s1 =>
  wpAny (model X.prog X.w) X.A (noteFrame e X.env) (fun _ s2 => wpAny (model X.prog X.w) X.A (setFlight e none) (fun _ s3 => wpAny (model X.prog X.w) X.A (handleBy e X.env hd) (SP X pins D) X.xe s3) X.xe s2) X.xe s1
section
variable {X : Cx} {x n : Str} {c : Value} {i : Nat} {body suite : List Stmt} {b0 : Stmt} {np pos pos' : Pos} {tb : WX → TS} {ts : Value → Option Addr → Addr → TS} {Wout : WX}
theorem ps_try_val (hs : X.stack = X.env :: X.outer) (hf : X.env.frame = some X.env.locals) (hx : X.ex = []) (hN : X.N.Nodup) (hi : X.N[i]? = some n) (hl : X.env.kindOf n = some .local) (hc : Names X x c) (tk : Takes X Wout)
    (hb : ∀ (W : WX) (pn : List (Addr × Obj)) (xe : Value → Shared → Prop), Takes (X.tr pn xe) W → PassesOwn (model X.prog X.w) X.A X.env xe → PSs (X.tr pn xe) body (tb W))
    (hsu : ∀ (a : Addr) (cls : Value) (d : Option Addr) (pn : List (Addr × Obj)), PSs (X.suite a pn) (b0 :: suite) (ts cls d a)) :
    PS X (.Try body [.ExceptHandler (some (.Name x np)) (some n) (b0 :: suite) pos'] [] [] pos) (fun D σ H => tb (wVal X.K c i ts Wout D) D σ H) := by
  refine ⟨fun pins s σ H D I h => ?_⟩
  have ok := I.ok
  have frm : X.A.frames = some (X.env :: X.outer) := by rw [ok.frames, hs]
  have lc : Loc X.env.scope n := .inl hl
  refine wpAny_Try_except ?_
  have take : Takes (X.tr (X.pn ++ pins) (caught X pins D [.ExceptHandler (some (.Name x np)) (some n) (b0 :: suite) pos'])) (wVal X.K c i ts Wout D) := by
    intro u s' xx
    obtain ⟨a, B, sI, pins', σ', H', cls, d, rfl, J', nb, up, sky, na, os, ag, b, hb1, hyes, hno⟩ := xx
    have J : L2.Inv X pins σ' H' sI := J'.ofTry ok
    rw [show (X.tr (X.pn ++ pins) (caught X pins D [.ExceptHandler (some (.Name x np)) (some n) (b0 :: suite) pos'])).stack = X.env :: X.outer from hs] at sky
    unfold caught
    refine Sky.land Zc.steady frm hf sky fun h3 fl3 up3 => ?_
    -- the exception's own object is none of ours
    have frameless : ∀ {g : Heap} {o : Obj} {vs : Array Value}, g.FunFrames B (X.env :: X.outer) → g.get? a = some o → o.data = .fields vs → a ∉ frs (X.env :: X.outer) := by
      intro g o vs ff e dd hm
      obtain ⟨_, o', e', hnf⟩ := ff.mem hm
      rw [e] at e'; cases e'
      exact hnf _ dd
    obtain ⟨oe3, vs3, he3, hz3, hd3⟩ := fl3.there
    have nfr := frameless fl3.2.2.1 he3 hd3
    have nL : a ≠ X.env.locals := fun z => nfr (List.mem_filterMap.mpr ⟨X.env, List.mem_cons_self, by rw [hf, z]⟩)
    have nI : sI.heap.get? a = none := by
      cases q : sI.heap.get? a with
      | none => rfl
      | some o =>
        have z := nb a o q (by rw [show (X.tr (X.pn ++ pins) (caught X pins D [.ExceptHandler (some (.Name x np)) (some n) (b0 :: suite) pos'])).stack = X.env :: X.outer from hs]; exact nfr)
        rw [fl3.2.1] at z; cases z
    have n0 : X.s_0.heap.get? a = none := by
      cases q : X.s_0.heap.get? a with
      | none => rfl
      | some o =>
        obtain ⟨o', z⟩ := J.base.there a o q (by rw [hx]; simp)
        rw [nI] at z; cases z
    have nC : ∀ y k, X.env.cells.lookup y = some k → k ≠ a := fun y k e z => by
      obtain ⟨v, o, q, _⟩ := J.cell y k e
      rw [z, nI] at q; cases q
    have nP : ∀ p ∈ X.pn ++ pins, p.1 ≠ a := fun p hp z => by
      obtain ⟨q, _⟩ := J.pin p hp
      rw [z, nI] at q; cases q
    have J3 : L2.Inv X pins σ' H' { s' with heap := h3 } := J.landed nb fl3.1 (up.trans up3) os ag
    have tell : ∀ {g : Heap}, HandSPX.FlyingZ B (X.env :: X.outer) a (Zc cls d) g → L2.Inv X pins σ' H' { s' with heap := g } → L2.Inv X pins σ' (upd H' a (ExV cls d a)) { s' with heap := g } := fun {g} fl G => by
      obtain ⟨oe, vs, e1, e2, e3⟩ := fl.there
      exact inv_told G na n0 nL nC nP (exv_ok e1 e2 e3)
    have S3 : L2.Inv (X.suite a (X.pn ++ pins)) [] σ' (upd H' a (ExV cls d a)) { s' with heap := h3 } := inv_in (tell fl3 J3)
    refine wpAny_handleBy_cons (codeAny_handlers_test ?_) (by intro q; cases q)
    have clsAt : PySem.W.Looks (model X.prog X.w) h3 (typeOf (.ref a)) cls := fun A Q E s k q => wpAny_typeOf_ref (k _ _ he3) (by rw [hz3.1]; exact q)
    have looked := PySem.W.exm_one (M := model X.prog X.w) J3.kIn clsAt hb1
    have name : ∀ {Q E : Value → Shared → Prop}, Q c { s' with heap := h3 } → wpAny (model X.prog X.w) (X.A.mark (some (.ref a))) (eval (.Name x np) X.env) Q E { s' with heap := h3 } := by
      intro Q E q
      rcases hc with ⟨hg, hdbg, hm | ⟨hm, hv, hnn⟩⟩
      · exact ld_glob (X := X.suite a (X.pn ++ pins)) S3 hg hm q hdbg
      · exact ld_blt (X := X.suite a (X.pn ++ pins)) S3 hg hm hv q hnn hdbg
    refine name (looked.here ?_)
    cases b with
    | true =>
      refine codeAny_handlers_suite_as ?_
      refine HandSPX.lands_againZ fl3 fun h4 fl4 up4 => ?_
      have S4 : L2.Inv (X.suite a (X.pn ++ pins)) [] σ' (upd H' a (ExV cls d a)) { s' with heap := h4 } := inv_in (tell fl4 (J.landed nb fl4.1 ((up.trans up3).trans up4) os ag))
      refine store_ok (X := X.suite a (X.pn ++ pins)) (v := .ref a) S4 hN hi lc rfl (fun s5 S5 => ?_) (.inr hl)
      refine wpAny_mono ((hsu a cls d (X.pn ++ pins)).run [] s5 _ _ (goneEnds i D) S5 (hyes rfl a na)) (fun f s6 hsp => ?_) fun _ _ z => False.elim z
      have over : ∀ {τ : L2.St} {G : Hp} {Q : Shared → Prop}, L2.Inv (X.suite a (X.pn ++ pins)) [] τ G s6 → (∀ s7, L2.Inv X pins (τ.set i none) G s7 → Q s7) →
          wpAny (model X.prog X.w) X.A (do bindName X.env n .none; unbindBehindTheSuite X.env n pos') (fun _ s7 => Q s7) X.xe s6 := fun S6 hq => gone_ok (inv_out S6 ok) hN hi hl hq
      cases f with
      | next =>
        rcases hsp with ⟨τ, G, S6, q6⟩
        exact over S6 fun s7 J7 => ⟨_, _, J7, q6⟩
      | brk =>
        rcases hsp with ⟨τ, G, S6, q6⟩
        exact over S6 fun s7 J7 => ⟨_, _, J7, q6⟩
      | cont =>
        rcases hsp with ⟨τ, G, S6, q6⟩
        exact over S6 fun s7 J7 => ⟨_, _, J7, q6⟩
      | ret u =>
        rcases hsp with ⟨v6, τ, G, S6, r6, q6⟩
        exact over S6 fun s7 J7 => ⟨_, _, _, J7, r6, q6⟩
    | false =>
      refine wpAny_handleBy_nil ?_
      obtain ⟨_, _, _, oe, vs, T, oT, ts', he, hz, hd, h1, hr⟩ := id fl3
      unfold PySem.passOn
      refine wpAny_bind (wpAny_field he hd h1 ?_)
      rw [if_neg (show ¬ ((Value.ref T == Value.none) = true) by simp)]
      have on : wpAny (model X.prog X.w) X.A (setFlight (.ref a) X.env.frame) (fun _ s4 => wpAny (model X.prog X.w) X.A (throw (.ref a) : Sem Flow) (SP X pins D) X.xe s4) X.xe { s' with heap := h3 } := by
        rw [hf]
        refine HandSPX.setFlight_upZ fl3 fun h4 hh4 up4 => wpAny_throw (tk _ _ ?_)
        exact ⟨a, B, sI, pins, σ', H', cls, d, rfl, J, nb, (up.trans up3).trans up4, .inr (.inr (by rw [hs]; exact hh4)), na, os, ag, hno rfl⟩
      first
        | exact wpAny_bind (wpAny_pure (wpAny_bind on))
        | exact wpAny_bind on
  refine wpAny_mono ((hb (wVal X.K c i ts Wout D) (X.pn ++ pins) (caught X pins D _) take PassesOwn.looking).run [] s σ H D (I.toTry _) h) (fun f s1 hsp => ?_) fun e s1 he => he
  cases f with
  | next =>
    rcases hsp with ⟨τ, G, J', q⟩
    exact wpAny_execs_nil ⟨τ, G, J'.ofTry ok, q⟩
  | brk =>
    rcases hsp with ⟨τ, G, J', q⟩
    exact ⟨τ, G, J'.ofTry ok, q⟩
  | cont =>
    rcases hsp with ⟨τ, G, J', q⟩
    exact ⟨τ, G, J'.ofTry ok, q⟩
  | ret u =>
    rcases hsp with ⟨v, τ, G, J', r, q⟩
    exact ⟨v, τ, G, J'.ofTry ok, r, q⟩
end

/-! ### as functions on data -/
/-- the slot's worth of a caught exception -/
def exoOf (c : Str) : Option (List (Str × D)) → D
  | none => .exo c false [] []
  | some fs => .exo c true (fs.map (·.1)) (fs.map (·.2))
def cTryAs (i : Nat) (ex : Str → Option Bool) (b h : MS) : MS := fun env M => match b env M with
  | .exc c fs env' M' => match ex c with
    | some true => match h (env'.set i (some (exoOf c fs))) M' with
      | .nx e2 M2 => .nx (e2.set i none) M2
      | .bk e2 M2 => .bk (e2.set i none) M2
      | .ct e2 M2 => .ct (e2.set i none) M2
      | .ret d M2 => .ret d M2
      | _ => .err
    | some false => .exc c fs env' M'
    | none => .err
  | r => r
theorem den_exoOf {K : PySem.W.Frag} {ρ : Rho} {M : MH} {H : Hp} {c : Str} {cv : Value} {fs : Option (List (Str × D))} {d : Option Addr} {a : Addr} (R : Rel K ρ M H) (cn : CN K c cv) (x : XRel K ρ H fs d) (na : H a = none) : Den K ρ (upd H a (ExV cv d a)) (exoOf c fs) (.ref a) := by
  have S : Stp ρ H ρ (upd H a (ExV cv d a)) := Stp.alloc na
  cases fs with
  | none =>
    unfold XRel at x
    exact den_exo.mpr ⟨a, cv, d, rfl, cn, upd_same, .inl ⟨rfl, x⟩⟩
  | some fs =>
    obtain ⟨dd, gs, e1, e2, e3⟩ := x
    refine den_exo.mpr ⟨a, cv, d, rfl, cn, upd_same, .inr ⟨rfl, dd, gs, e1, by rw [upd_ne (ne_of_none e2 na)]; exact e2, ?_, ?_⟩⟩
    · clear e1 e2 S R
      induction e3 with
      | nil => rfl
      | cons r _ ih => rw [List.map_cons, List.map_cons, r.1, ih]
    · refine Dens.step R S _ _ ?_
      clear e1 e2 S
      induction e3 with
      | nil => exact dens_nil.mpr rfl
      | cons r _ ih => exact dens_cons.mpr ⟨_, _, rfl, r.2, ih⟩
theorem EnR.unset {K : PySem.W.Frag} {ρ : Rho} {H : Hp} {env : En} {σ : L2.St} (e : EnR K ρ H env σ) (i : Nat) : EnR K ρ H (env.set i none) (σ.set i none) := by
  refine ⟨by simp [e.len], fun j d hj => ?_⟩
  by_cases q : i = j
  · subst q
    by_cases hl : i < env.length
    · rw [List.getElem?_set_self hl] at hj; cases hj
    · rw [List.getElem?_eq_none (by simpa using hl)] at hj; cases hj
  · rw [List.getElem?_set_ne q] at hj
    rw [List.getElem?_set_ne q]
    exact e.get j d hj
section
variable {X : Cx} {W : WX}
theorem c_try_as {x n : Str} {c : Value} {i : Nat} {body suite : List Stmt} {b0 : Stmt} {np pos pos' : Pos} {b h : MS} {ex : Str → Option Bool} (hs : X.stack = X.env :: X.outer) (hf : X.env.frame = some X.env.locals) (hx0 : X.ex = []) (hN : X.N.Nodup) (hi : X.N[i]? = some n) (hl : X.env.kindOf n = some .local) (hc : Names X x c) (tk : Takes X W)
    (hx : ∀ k r, ex k = some r → ∀ cv, CN X.K k cv → PySem.W.exmOne X.K cv c = some r)
    (hb : ∀ (W' : WX) (pn : List (Addr × Obj)) (xe : Value → Shared → Prop), Takes (X.tr pn xe) W' → PassesOwn (model X.prog X.w) X.A X.env xe → SB (X.tr pn xe) W' body b)
    (hsu : ∀ (a : Addr) (pn : List (Addr × Obj)), SB (X.suite a pn) W0 (b0 :: suite) h) :
    SS X W (.Try body [.ExceptHandler (some (.Name x np)) (some n) (b0 :: suite) pos'] [] [] pos) (cTryAs i ex b h) := by
  refine ps_imp (ps_try_val (tb := fun W' => Mi.ts X.K W' b) (ts := fun _ _ _ => Mi.ts X.K W0 h) hs hf hx0 hN hi hl hc tk (fun W' pn xe t p => hb W' pn xe t p) fun a cls d pn => hsu a pn) fun D σ H q => ?_
  obtain ⟨ρ, M, env, Rl, E, q⟩ := q
  refine ⟨ρ, M, env, Rl, E, ?_⟩
  unfold cTryAs at q
  cases e : b env M with
  | nx env' M' => rw [e] at q; exact q
  | ret d M' => rw [e] at q; exact q
  | bk env' M' => rw [e] at q; exact q
  | ct env' M' => rw [e] at q; exact q
  | err => rw [e] at q; exact q
  | exc k fs env' M' =>
    rw [e] at q
    simp only at q
    intro ρ' H' d σ' cv cn S R' xr E'
    split at q
    · rename_i ec
      refine ⟨true, hx _ _ ec _ cn, fun _ a na => ?_, fun z => nomatch z⟩
      have S2 : Stp ρ' H' ρ' (upd H' a (ExV cv d a)) := Stp.alloc na
      refine ⟨ρ', M', _, R'.alloc na, (E'.step R' S2).set i (den_exoOf R' cn xr na), ?_⟩
      cases e2 : h (env'.set i (some (exoOf k fs))) M' with
      | nx e3 M3 =>
        rw [e2] at q
        exact fun ρ3 H3 σ3 S3 R3 E3 => q ρ3 H3 _ ((S.trans S2).trans S3) R3 (E3.unset i)
      | bk e3 M3 =>
        rw [e2] at q
        exact fun ρ3 H3 σ3 S3 R3 E3 => q ρ3 H3 _ ((S.trans S2).trans S3) R3 (E3.unset i)
      | ct e3 M3 =>
        rw [e2] at q
        exact fun ρ3 H3 σ3 S3 R3 E3 => q ρ3 H3 _ ((S.trans S2).trans S3) R3 (E3.unset i)
      | ret d3 M3 =>
        rw [e2] at q
        exact fun ρ3 H3 v S3 R3 dv => q ρ3 H3 v ((S.trans S2).trans S3) R3 dv
      | exc _ _ _ _ => rw [e2] at q; exact q.elim
      | err => rw [e2] at q; exact q.elim
    · rename_i ec
      exact ⟨false, hx _ _ ec _ cn, (fun z => nomatch z), fun _ => q ρ' H' d σ' cv cn S R' xr E'⟩
    · exact q.elim
end
end Mi

end

section
/-! Mi, part 24: isinstance of a caught exception, its fields. -/
namespace Mi
open PySem PySem.Spec PyProof.Rows L2

/-- what the written part says of an exception class of the text -/
structure XC (K : PySem.W.Frag) (c : Str) (C : Addr) : Prop where
  nm : PySem.W.nsIn K mainGlobals c = some (some (.ref C))
  cl : (PySem.W.clsIn K C).isSome = true
  ga : PySem.W.findIn K (.ref C) "__getattribute__" = some (some (.builtin "BaseException.__getattribute__"))
  gt : PySem.W.findIn K (.ref C) "__getattr__" = some none
  su : PySem.W.subIn K (.ref C) (.type "BaseException") = some true
  ac : PySem.W.findIn K (.ref C) "__class__" = some (some (.builtin "object.__class__"))
  sp : PySem.W.specialIn K (.builtin "object.__class__") "__get__" = some (some (.builtin "getset_descriptor.__get__"))
  tk : PySem.W.takesIn K (.builtin "object.__class__") = some true
  mo : PySem.W.mroIn K C (.type "object") = some true
  hd : PySem.W.hasDictIn K C = true
/-- a class in isinstance: of the text, built in -/
abbrev Ck := Sum Str String
def CkV (K : PySem.W.Frag) : Ck → Value → Prop
  | .inl n, v => CN K n v
  | .inr n, v => v = .type n
abbrev ITab := List (Str × List (Ck × Bool))
def IOk (K : PySem.W.Frag) (T : ITab) : Prop := ∀ p ∈ T, ∃ C, XC K p.1 C ∧ ∀ q ∈ p.2, ∀ nv, CkV K q.1 nv → PySem.W.kitOne K (.ref C) nv = some q.2
def isE (T : ITab) (c : Str) (k : Ck) : Option Bool := (T.find? fun p => decide (p.1 = c)).bind fun p => (p.2.find? fun q => decide (q.1 = k)).map (·.2)
def ckOf : D → Option Ck
  | .fn n => some (.inl n)
  | .ty n => some (.inr n)
  | _ => none
def isEs (T : ITab) (c : Str) : List D → Option Bool
  | [] => some false
  | d :: ds => match (ckOf d).bind (isE T c) with
    | some true => some true
    | some false => isEs T c ds
    | none => none
/-- isinstance, of exceptions too -/
def isiE (T : ITab) : OpN := fun xs M => match xs with
  | [.exo c hd ks ds, k] => match k with
    | .tup (k0 :: cs) => match isEs T c (k0 :: cs) with
      | some b => .ok (.bl b) M
      | none => .err
    | k => match (ckOf k).bind (isE T c) with
      | some b => .ok (.bl b) M
      | none => .err
  | xs => isiD xs M
theorem q_isiE {T : ITab} : QuietN (isiE T) := by
  intro x M c fs M' e
  unfold isiE at e
  split at e
  · (repeat' split at e) <;> cases e
  · exact q_isi _ _ _ _ _ e
theorem isE_kit {K : PySem.W.Frag} {T : ITab} (ok : IOk K T) {c : Str} {C : Addr} (cn : CN K c (.ref C)) {k : Ck} {b : Bool} (e : isE T c k = some b) : XC K c C ∧ ∀ nv, CkV K k nv → PySem.W.kitOne K (.ref C) nv = some b := by
  unfold isE at e
  obtain ⟨p, e1, e2⟩ := Option.bind_eq_some_iff.mp e
  obtain ⟨q, e3, e4⟩ := Option.map_eq_some_iff.mp e2
  obtain ⟨C', x, hq⟩ := ok p (List.mem_of_find?_eq_some e1)
  have h1 : p.1 = c := by simpa using List.find?_some e1
  have h2 : q.1 = k := by simpa using List.find?_some e3
  have h3 : Value.ref C' = .ref C := CN.uniq (.inl (h1 ▸ x.nm)) cn
  cases h3
  subst h1 h2 e4
  exact ⟨x, hq q (List.mem_of_find?_eq_some e3)⟩
theorem isE_cls {K : PySem.W.Frag} {T : ITab} (ok : IOk K T) {c : Str} {cv : Value} (cn : CN K c cv) {k : Ck} {b : Bool} (e : isE T c k = some b) : ∃ C, cv = .ref C := by
  unfold isE at e
  obtain ⟨p, e1, e2⟩ := Option.bind_eq_some_iff.mp e
  obtain ⟨C', x, hq⟩ := ok p (List.mem_of_find?_eq_some e1)
  have h1 : p.1 = c := by simpa using List.find?_some e1
  exact ⟨C', (CN.uniq (.inl (h1 ▸ x.nm)) cn).symm⟩
/-- its dict, if it has one -/
def XDict (H : Hp) (d : Option Addr) : Prop := d = none ∨ ∃ dd gs, d = some dd ∧ H dd = some (.xd gs)
section
variable {X : Cx} {pins : List (Addr × Obj)} {σ : L2.St} {H : Hp} {s : Shared}
theorem exv_inst (I : L2.Inv X pins σ H s) {a C : Addr} {d : Option Addr} (e : H a = some (ExV (.ref C) d a)) (hd : XDict H d) : ∃ oe od, PySem.W.InstAt s.heap a oe C od := by
  obtain ⟨oe, vs, e1, ⟨z1, z2⟩, f⟩ := exv_at I.hok e
  rcases hd with rfl | ⟨dd, gs, rfl, hg⟩
  · refine ⟨oe, none, e1, z1, ?_, ?_⟩
    · unfold PySem.W.notCls
      rw [f] <;> rfl
    · rw [z2] <;> trivial
  · have hx : ObjOk X.prog X.w H s.heap dd (.xd gs) := I.hok dd _ hg
    obtain ⟨mA, ⟨o, es, ep, e2, e3⟩, hr⟩ := hx
    refine ⟨oe, some o, e1, z1, ?_, ?_⟩
    · unfold PySem.W.notCls
      rw [f] <;> rfl
    · rw [z2]; exact e2
/-- isinstance(e, C) -/
def rIsV (K : PySem.W.Frag) : List V → Hp → VK → Prop := fun vs H Q => ∃ (a C : Addr) (c : Str) (d : Option Addr) (t : V) (b : Bool), vs = [.ref a, t] ∧ H a = some (ExV (.ref C) d a) ∧ XDict H d ∧ XC K c C ∧ (∀ u, RelV t u → PySem.W.kitOne K (.ref C) u = some b) ∧ Q (.bl b) H
theorem call_isV : CallR X (.builtin "isinstance") (rIsV X.K) := by
  intro pins s σ H xs us Q I r h
  obtain ⟨a, C, c, d, t, b, rfl, ha, hd, x, e, q⟩ := h
  cases r with
  | cons rx rr =>
    cases rr with
    | cons rt rr =>
      cases rr
      cases rx
      obtain ⟨oe, od, J⟩ := exv_inst I ha hd
      exact PySem.W.kia_one (PySem.W.kitx_exc x.cl x.ga x.gt x.su x.ac x.sp x.tk x.mo) I.kIn J (e _ rt) (fun z => nomatch z) fun tk => ⟨.bl b, H, I.kept (t' := tk) fun _ _ z => z, rfl, q⟩
/-- isinstance(e, (C, ..)) -/
def rIsVs (K : PySem.W.Frag) : List V → Hp → VK → Prop := fun vs H Q => ∃ (a C p : Addr) (c : Str) (d : Option Addr) (ts : List V) (b : Bool), vs = [.ref a, .ref p] ∧ H a = some (ExV (.ref C) d a) ∧ XDict H d ∧ XC K c C ∧ SqT K H p ts ∧ (∀ us, Vals ts us → PySem.W.kitAny K (.ref C) us = some b) ∧ Q (.bl b) H
theorem call_isVs : CallR X (.builtin "isinstance") (rIsVs X.K) := by
  intro pins s σ H xs us Q I r h
  obtain ⟨a, C, p, c, d, ts, b, rfl, ha, hd, x, hs, e, q⟩ := h
  cases r with
  | cons rx rr =>
    cases rr with
    | cons rt rr =>
      cases rr
      cases rx
      cases rt
      obtain ⟨oe, od, J⟩ := exv_inst I ha hd
      obtain ⟨its, rv, ⟨o, e1, e2, n, e3⟩, hz⟩ := I.tuple hs
      obtain ⟨oc, odd, odt, osl⟩ := o
      dsimp only at e2 e3
      subst e2 e3
      exact PySem.W.kia_tup (PySem.W.kitx_exc x.cl x.ga x.gt x.su x.ac x.sp x.tk x.mo) I.kIn J e1 (e _ rv) (fun z => nomatch z) fun tk => ⟨.bl b, H, I.kept (t' := tk) fun _ _ z => z, rfl, q⟩
end
theorem ck_val {K : PySem.W.Frag} {ρ : Rho} {H : Hp} {k : D} {ck : Ck} {t : V} {u : Value} (e : ckOf k = some ck) (h : Den K ρ H k t) (r : RelV t u) : CkV K ck u := by
  unfold ckOf at e
  split at e
  · cases e
    obtain ⟨a, h1, rfl⟩ := den_fn.mp h
    cases r
    exact .inl h1
  · cases e
    rw [den_ty] at h
    subst h
    exact r
  · cases e
theorem isEs_kit {K : PySem.W.Frag} {T : ITab} (ok : IOk K T) {c : Str} {C : Addr} (cn : CN K c (.ref C)) {ρ : Rho} {H : Hp} : ∀ {ds : List D} {xs : List V} {us : List Value} {b : Bool}, isEs T c ds = some b → Dens K ρ H ds xs → Vals xs us → PySem.W.kitAny K (.ref C) us = some b
  | [], xs, us, b, e, h, r => by
    rw [dens_nil] at h
    subst h
    cases r
    exact e
  | d :: ds, xs, us, b, e, h, r => by
    obtain ⟨v, w, rfl, h1, h2⟩ := dens_cons.mp h
    cases r with
    | cons r1 r2 =>
      unfold isEs at e
      unfold PySem.W.kitAny
      cases q : ckOf d with
      | none => rw [q] at e; cases e
      | some k =>
        rw [q] at e
        simp only [Option.bind_some] at e
        cases q2 : isE T c k with
        | none => rw [q2] at e; cases e
        | some b1 =>
          rw [q2] at e
          rw [(isE_kit ok cn q2).2 _ (ck_val q h1 r1)]
          cases b1 with
          | true => exact e
          | false => exact isEs_kit ok cn e h2 r2
theorem isEs_cls {K : PySem.W.Frag} {T : ITab} (ok : IOk K T) {c : Str} {cv : Value} (cn : CN K c cv) {d : D} {ds : List D} {b : Bool} (e : isEs T c (d :: ds) = some b) : ∃ C, cv = .ref C ∧ XC K c C := by
  unfold isEs at e
  cases q : ckOf d with
  | none => rw [q] at e; cases e
  | some k =>
    rw [q] at e
    simp only [Option.bind_some] at e
    cases q2 : isE T c k with
    | none => rw [q2] at e; cases e
    | some b1 =>
      obtain ⟨C, rfl⟩ := isE_cls ok cn q2
      exact ⟨C, rfl, (isE_kit ok cn q2).1⟩
theorem exo_dict {K : PySem.W.Frag} {ρ : Rho} {H : Hp} {hd : Bool} {d : Option Addr} {ks : List Str} {ds : List D} (h : hd = false ∧ d = none ∨ hd = true ∧ ∃ dd gs, d = some dd ∧ H dd = some (.xd gs) ∧ gs.map (·.1) = ks ∧ Dens K ρ H ds (gs.map (·.2))) : XDict H d := by
  rcases h with ⟨_, h⟩ | ⟨_, dd, gs, h1, h2, _⟩
  · exact .inl h
  · exact .inr ⟨dd, gs, h1, h2⟩
section
variable {X : Cx} {W : WX}
theorem o_isiE {T : ITab} (ok : IOk X.K T) : OpNR X (.builtin "isinstance") (isiE T) := by
  intro ρ M H xs vs Q Rl dv h
  unfold isiE at h
  split at h
  · rename_i c hd ks ds k
    obtain ⟨v, t, rfl, d1, d2⟩ := dens_two dv
    obtain ⟨a, cv, d, rfl, cn, ha, hdd⟩ := den_exo.mp d1
    split at h
    · rename_i k0 cs
      obtain ⟨p, ts, rfl, hs, hds⟩ := den_tup.mp d2
      split at h
      · rename_i b e
        obtain ⟨C, rfl, x⟩ := isEs_cls ok cn e
        exact ⟨_, call_isVs, a, C, p, c, d, ts, b, rfl, ha, exo_dict hdd, x, hs, fun us r => isEs_kit ok cn e hds r, here Rl h (den_bl.mpr rfl)⟩
      · exact h.elim
    · split at h
      · rename_i b e
        obtain ⟨ck, e1, e2⟩ := Option.bind_eq_some_iff.mp e
        obtain ⟨C, rfl⟩ := isE_cls ok cn e2
        exact ⟨_, call_isV, a, C, c, d, t, b, rfl, ha, exo_dict hdd, (isE_kit ok cn e2).1, fun u r => (isE_kit ok cn e2).2 u (ck_val e1 d2 r), here Rl h (den_bl.mpr rfl)⟩
      · exact h.elim
  · exact o_isi ρ M H _ vs Q Rl dv h
/-- a class of the text, or a def, by its name -/
theorem s_fn {x : Str} {a : Addr} {pos : Pos} (n : PySem.W.nsIn X.K mainGlobals x = some (some (.ref a))) (hm : X.mg x = some (.ref a)) (hg : Gl X x := by rfl) (hd : (x == ("__debug__" : Str)) = false := by decide) : SE X W (.Name x pos) (mC (.fn x)) :=
  s_glob (v := .ref a) hm rfl (fun _ _ => den_fn.mpr ⟨a, n, rfl⟩) hg hd

/-! ### e.f -/
abbrev ATab := List (Str × List Str)
def AOk (K : PySem.W.Frag) (T : ATab) : Prop := ∀ p ∈ T, ∃ C, XC K p.1 C ∧ ∀ f ∈ p.2, PySem.W.findIn K (.ref C) f = some none
def hasA (T : ATab) (c f : Str) : Bool := T.any fun p => decide (p.1 = c) && p.2.any fun g => decide (g = f)
def attrX (T : ATab) (f : Str) : Op1 := fun d M => match d with
  | .exo c true ks ds => if hasA T c f = true then match (ks.zip ds).lookup f with
      | some d => .ok d M
      | none => .err
    else .err
  | _ => .err
theorem hasA_ok {K : PySem.W.Frag} {T : ATab} (ok : AOk K T) {c f : Str} {cv : Value} (cn : CN K c cv) (h : hasA T c f = true) : ∃ C, cv = .ref C ∧ XC K c C ∧ PySem.W.findIn K (.ref C) f = some none := by
  unfold hasA at h
  obtain ⟨p, h1, h2⟩ := List.any_eq_true.mp h
  rw [Bool.and_eq_true, decide_eq_true_eq] at h2
  obtain ⟨e, h3⟩ := h2
  obtain ⟨g, h4, h5⟩ := List.any_eq_true.mp h3
  rw [decide_eq_true_eq] at h5
  subst h5
  obtain ⟨C, x, q⟩ := ok p h1
  subst e
  exact ⟨C, (CN.uniq (.inl x.nm) cn).symm, x, q g h4⟩
theorem look_rel {K : PySem.W.Frag} {ρ : Rho} {H : Hp} {f : Str} {d : D} : ∀ {ds : List D} {gs : List (Str × V)}, Dens K ρ H ds (gs.map (·.2)) → ((gs.map (·.1)).zip ds).lookup f = some d → ∃ v, gs.lookup f = some v ∧ Den K ρ H d v
  | [], gs, h, e => by
    cases gs <;> cases e
  | d0 :: ds, gs, h, e => by
    obtain ⟨v, r, e1, h1, h2⟩ := dens_cons.mp h
    cases gs with
    | nil => cases e1
    | cons p gs =>
      simp only [List.map_cons, List.cons.injEq] at e1
      obtain ⟨e1, e2⟩ := e1
      subst e1 e2
      obtain ⟨k, w⟩ := p
      simp only [List.map_cons, List.zip_cons_cons, List.lookup_cons] at e ⊢
      by_cases z : (f == k) = true
      · rw [z] at e ⊢
        cases e
        exact ⟨_, rfl, h1⟩
      · rw [Bool.not_eq_true] at z
        rw [z] at e ⊢
        exact look_rel h2 e
theorem pe_xval {e : Expr} {te : TE} {pos : Pos} {n : Str} (he : PE X e te) (hb : attributeBase e n X.env (eval e X.env) = eval e X.env := by rfl) :
    PE X (.Attribute e n pos) (fun σ H Q => te σ H fun x H1 => ∃ (a C dd : Addr) (c : Str) (fs : List (Str × V)) (v : V), x = .ref a ∧ H1 a = some (ExV (.ref C) (some dd) a) ∧ XC X.K c C ∧ PySem.W.findIn X.K (.ref C) n = some none ∧ H1 dd = some (.xd fs) ∧ fs.lookup n = some v ∧ Q v H1) := by
  refine ⟨fun pins s σ H Q I h => ?_⟩
  refine attr_of hb (thn (he.run pins s σ H _ I h) fun u s1 hh => ?_)
  obtain ⟨x, H1, I1, rx, a, C, dd, c, fs, v, rfl, ha, x, hno, ea, l, q⟩ := hh
  obtain rfl : u = Value.ref a := rx
  obtain ⟨oe, vs, e1, ⟨z1, z2⟩, f⟩ := exv_at I1.hok ha
  have hx : ObjOk X.prog X.w H1 s1.heap dd (.xd fs) := I1.hok dd _ ea
  obtain ⟨mA, hns, hr⟩ := hx
  obtain ⟨od, ho, hl⟩ := lookIn_ns hns
  obtain ⟨u, hu, ru⟩ := RelO.some_of (v := v) (o := mA n) (by rw [← l]; exact hr n)
  have J : PySem.W.InstAt s1.heap a oe C (some od) := ⟨e1, z1, by unfold PySem.W.notCls; rw [f] <;> rfl, by rw [z2]; exact ho⟩
  exact HandSPX.exc_get I1.kIn J x.ga x.gt x.su (PySem.W.findObj_own x.hd hno rfl (by rw [hl, hu])) (handed_of ru) ⟨v, H1, I1.tok _, ru, q⟩
theorem s_xattr {T : ATab} (ok : AOk X.K T) {e : Expr} {pos : Pos} {n : Str} {m : ME} (he : SE X W e m) (hb : attributeBase e n X.env (eval e X.env) = eval e X.env := by rfl) : SE X W (.Attribute e n pos) (m1 (attrX T n) m) := by
  refine pe_imp (pe_xval he hb) fun σ H Q h => ?_
  refine tm_bind (f := fun d env M1 => attrX T n d M1) h fun d M1 ρ1 H1 v env R1 E1 dv h => ?_
  unfold attrX at h
  split at h
  · rename_i c ks ds
    split at h
    · rename_i hA
      split at h
      · rename_i d e
        obtain ⟨a, cv, dd0, rfl, cn, ha, hdd⟩ := den_exo.mp dv
        obtain ⟨C, rfl, x, hno⟩ := hasA_ok ok cn hA
        rcases hdd with ⟨z, _⟩ | ⟨_, dd, gs, rfl, hg, rfl, hds⟩
        · cases z
        · obtain ⟨v, l, dv2⟩ := look_rel hds e
          exact ⟨a, C, dd, c, gs, v, rfl, ha, x, hno, hg, l, here R1 h dv2⟩
      · exact h.elim
    · exact h.elim
  · exact h.elim
end
end Mi

end

section
/-! Mi, part 25: raising a class of the text by its name; which classes a clause takes. -/
namespace Mi
open PySem PySem.Spec PyProof.Rows L2
/-- an exception class of the text without an own __init__ -/
structure RC0 (K : PySem.W.Frag) (mg : Str → Option Value) (x : Str) : Prop where
  ex : ∃ (C : Addr) (B newId initId : String) (bmB : List Value), ExcBaseFacts B newId initId bmB ∧ mg x = some (.ref C) ∧ PySem.W.nsIn K mainGlobals x = some (some (.ref C)) ∧ PySem.W.excIn K C bmB newId = true ∧ PySem.W.keepIn K (.ref C) = true ∧
    PySem.W.subIn K (.ref C) (.type "BaseException") = some true ∧ PySem.W.typeIn K (.ref C) = some (.type "type")
theorem rc0 {K : PySem.W.Frag} {mg : Str → Option Value} {x : Str} {C : Addr} {B newId initId : String} {bmB : List Value} {h : Heap} (X : K.In h) (G : h.Ns mainGlobals mg) (F : ExcBaseFacts B newId initId bmB) (n : PySem.W.nsIn K mainGlobals x = some (some (.ref C))) (q : PySem.W.excIn K C bmB newId = true)
    (k : PySem.W.keepIn K (.ref C) = true) (b : PySem.W.subIn K (.ref C) (.type "BaseException") = some true) (t : PySem.W.typeIn K (.ref C) = some (.type "type")) : RC0 K mg x := ⟨C, B, newId, initId, bmB, F, PySem.W.mg_of X G n, n, q, k, b, t⟩
def mRaise0 (x : Str) (ma : MA) : MS := fun env M => andS (ma env M) env fun ds M1 => if ds.length ≤ lim then .exc x none env M1 else .err
/-- which classes are taken, of those named -/
def exT (T : List (Str × Bool)) (k : Str) : Option Bool := (T.find? fun p => decide (p.1 = k)).map (·.2)
def ExOk (K : PySem.W.Frag) (c : Value) (T : List (Str × Bool)) : Prop := ∀ p ∈ T, ∀ cv, CN K p.1 cv → PySem.W.exmOne K cv c = some p.2
theorem exT_ok {K : PySem.W.Frag} {c : Value} {T : List (Str × Bool)} (ok : ExOk K c T) : ∀ k r, exT T k = some r → ∀ cv, CN K k cv → PySem.W.exmOne K cv c = some r := fun k r e cv cn => by
  unfold exT at e
  obtain ⟨p, e1, e2⟩ := Option.map_eq_some_iff.mp e
  have h : p.1 = k := by simpa using List.find?_some e1
  subst h e2
  exact ok p (List.mem_of_find?_eq_some e1) cv cn
theorem cn_ref {K : PySem.W.Frag} {c : Str} {C : Addr} (n : PySem.W.nsIn K mainGlobals c = some (some (.ref C))) {cv : Value} (cn : CN K c cv) : cv = .ref C := CN.uniq cn (.inl n)
/-- what a clause says of a class -/
theorem exm_mk {K : PySem.W.Frag} {cls : Value} {C : Addr} {b : Bool} (h1 : PySem.W.subIn K (.ref C) (.type "BaseException") = some true) (h2 : PySem.W.isClsIn K C = true) (h3 : PySem.W.typeIn K (.ref C) = some (.type "type")) (h4 : PySem.W.subIn K cls (.ref C) = some b) : PySem.W.exmOne K cls (.ref C) = some b := by
  have z : (PySem.W.clsIn K C).isSome = true := h2
  have f1 : (PySem.W.subIn K (.ref C) (.type "BaseException") == some true) = true := by rw [h1]; rfl
  have f2 : ((PySem.W.clsIn K C).isSome && PySem.W.typeIn K (.ref C) == some (.type "type")) = true := by rw [z, h3]; rfl
  show (if (PySem.W.subIn K (.ref C) (.type "BaseException") == some true) = true then (if ((PySem.W.clsIn K C).isSome && PySem.W.typeIn K (.ref C) == some (.type "type")) = true then PySem.W.subIn K cls (.ref C) else none) else none) = some b
  rw [if_pos f1, if_pos f2]
  exact h4
section
variable {X : Cx} {W : WX} {x : Str} {p pos cpos : Pos} {e : Expr} {es : List Expr} {ma : MA}
theorem c_raiseN (tk : Takes X W) (r : RC0 X.K X.mg x) (ha : SA X W (e :: es) ma) (hc : X.calm = true := by rfl) (hg : Gl X x := by rfl) (hdb : (x == ("__debug__" : Str)) = false := by decide)
    (he : starEach (e :: es) X.env = (false, eval e X.env) :: starEach es X.env := by rfl) (hpl : (backTo cpos (starEach es X.env)).any (·.1) = false := by rfl) :
    SS X W (.Raise (some (.Call (.Name x p) (e :: es) [] cpos)) none pos) (mRaise0 x ma) := by
  obtain ⟨C, B, newId, initId, bmB, F, gC, n, q, k, b, t⟩ := r.ex
  exact c_raise0 hc tk F q gC (.inl n) k (raises_own b t) ha hg hdb he hpl
end
end Mi

end

section
/-! Mi, part 26: classes of the text with fields: their making, raised. -/
namespace Mi
open PySem PySem.Spec PyProof.Rows L2
/-- what an own __init__ that stores its arguments promises -/
def spIni (C : Addr) (fs : List Str) : Sp := fun vs H Q _ => ∃ (a : Addr) (us : List V), vs = .ref a :: us ∧ us.length = fs.length ∧ H a = some (L2.exo a C none) ∧ ∀ d, H d = none → d ≠ a → Q .non (upd (upd H d (exd d (fs.zip us).reverse)) a (L2.exo a C (some d)))
theorem spIni_len {C : Addr} {fs : List Str} {vs : List V} {H : Hp} {Q : VK} {E : XK} (h : spIni C fs vs H Q E) : vs.length = fs.length + 1 := by
  obtain ⟨a, us, rfl, hl, _⟩ := h
  simp [hl]
section
variable {P : Program} {w : World} {K : PySem.W.Frag} {mg : Str → Option Value} {base : Heap} {x qual : Str} {st : Stmt} {f C : Addr} {fd : FuncData} {f1 f2 : Str}
theorem init1 (F : Fun K x qual st f fd) (S : FnScope ["self", f1] ["self", f1] (defScope st)) (T : OexC K C) (h1 : PySem.W.findIn K (.ref C) f1 = some none)
    (body : ∀ (cdv : Value) (A : Around) (outer : List Env) (s : Shared) (H : Hp) (E : XK), PSs (cxOf CX0 P w K mg base ["self", f1] qual (defScope st) f cdv A outer s H E).nox (defBody st) (tOst K f1 (tVar 0) (tVar 1))) : FnOk P w K mg base CX0 1 f fd ["self", f1] (spIni C [f1]) := by
  refine F.ok S (fun vs H Q E h => spIni_len h) fun cdv A outer s H vs Q E hr h => ⟨_, body cdv A outer s H E, ?_⟩
  obtain ⟨a, us, rfl, hl, ha, k⟩ := h
  match us, hl with
  | [y], _ => exact ⟨y, rfl, .ref a, rfl, a, C, rfl, T, h1, .inl ⟨ha, fun d hd ne => k d hd ne⟩⟩
theorem init2 (F : Fun K x qual st f fd) (S : FnScope ["self", f1, f2] ["self", f1, f2] (defScope st)) (T : OexC K C) (h1 : PySem.W.findIn K (.ref C) f1 = some none) (h2 : PySem.W.findIn K (.ref C) f2 = some none)
    (body : ∀ (cdv : Value) (A : Around) (outer : List Env) (s : Shared) (H : Hp) (E : XK), ∃ t, PSs (cxOf CX0 P w K mg base ["self", f1, f2] qual (defScope st) f cdv A outer s H E).nox (defBody st) t ∧ ∀ D σ H, tOst K f1 (tVar 0) (tVar 1) { D with nx := fun σ' H' => tOst K f2 (tVar 0) (tVar 2) D σ' H' } σ H → t D σ H) : FnOk P w K mg base CX0 1 f fd ["self", f1, f2] (spIni C [f1, f2]) := by
  refine F.ok S (fun vs H Q E h => spIni_len h) fun cdv A outer s H vs Q E hr h => ?_
  obtain ⟨t, b, i⟩ := body cdv A outer s H E
  refine ⟨t, b, i _ _ _ ?_⟩
  obtain ⟨a, us, rfl, hl, ha, k⟩ := h
  match us, hl with
  | [y, z], _ =>
    refine ⟨y, rfl, .ref a, rfl, a, C, rfl, T, h1, .inl ⟨ha, fun d hd ne => ?_⟩⟩
    refine ⟨z, rfl, .ref a, rfl, a, C, rfl, T, h2, .inr ⟨d, [(f1, y)], upd_same, by rw [upd_ne ne]; exact upd_same, by show 1 ≤ 900; decide, ?_⟩⟩
    have e : upd (upd (upd H d (exd d [(f1, y)])) a (L2.exo a C (some d))) d (exd d [(f2, z), (f1, y)]) = upd (upd H d (exd d [(f2, z), (f1, y)])) a (L2.exo a C (some d)) := by
      funext b
      by_cases hb : b = d
      · subst hb
        rw [upd_same, upd_ne ne, upd_same]
      · rw [upd_ne hb]
        by_cases ha : b = a
        · subst ha
          rw [upd_same, upd_same]
        · rw [upd_ne ha, upd_ne ha, upd_ne hb, upd_ne hb]
    show Q .non _
    rw [e]
    exact k d hd ne
end
/-- an exception class of the text whose __init__ stores its arguments -/
structure RCF (P : Program) (w : World) (K : PySem.W.Frag) (mg : Str → Option Value) (base : Heap) (x : Str) (fs : List Str) : Prop where
  ex : ∃ (C fI : Addr) (fd : FuncData), mg x = some (.ref C) ∧ PySem.W.nsIn K mainGlobals x = some (some (.ref C)) ∧ OexC K C ∧ PySem.W.findIn K (.ref C) "__init__" = some (some (.ref fI)) ∧ PySem.W.typeIn K (.ref fI) = some (.type "function") ∧
    FnOk P w K mg base CX0 1 fI fd ("self" :: fs) (spIni C fs) ∧ Binds K fd ("self" :: fs) []
def mRaiseF (x : Str) (fs : List Str) (ma : MA) : MS := fun env M => andS (ma env M) env fun ds M1 => if ds.length = fs.length ∧ ds.length ≤ 1000 then .exc x (some (fs.zip ds).reverse) env M1 else .err
theorem denP_zip2 {κ : Type} {K : PySem.W.Frag} {ρ : Rho} {H : Hp} : ∀ {fs : List κ} {ds : List D} {vs : List V}, Dens K ρ H ds vs → DenP K ρ H (fs.zip ds) (fs.zip vs)
  | [], ds, vs, _ => by simp only [List.zip_nil_left]; exact .nil
  | f :: fs, [], vs, h => by
    rw [dens_nil] at h
    subst h
    exact .nil
  | f :: fs, d :: ds, vs, h => by
    obtain ⟨v, r, rfl, h1, h2⟩ := dens_cons.mp h
    exact .cons ⟨rfl, h1⟩ (denP_zip2 h2)
theorem denP_rev {κ : Type} {K : PySem.W.Frag} {ρ : Rho} {H : Hp} {ps : List (κ × D)} {qs : List (κ × V)} (h : DenP K ρ H ps qs) : DenP K ρ H ps.reverse qs.reverse := by
  induction h with
  | nil => exact .nil
  | cons r _ ih =>
    rw [List.reverse_cons, List.reverse_cons]
    exact Paired.snoc ih r
section
variable {X : Cx} {W : WX} {x : Str} {p pos cpos : Pos} {e : Expr} {es : List Expr} {ma : MA} {fs : List Str}
theorem c_raiseF {k : Nat} (rm : Room k X.A) (hk : 2 ≤ k) (tk : Takes X W) (r : RCF X.prog X.w X.K X.mg X.base x fs) (ha : SA X W (e :: es) ma) (hc : X.calm = true := by rfl) (hg : Gl X x := by rfl) (hdb : (x == ("__debug__" : Str)) = false := by decide)
    (he : starEach (e :: es) X.env = (false, eval e X.env) :: starEach es X.env := by rfl) (hpl : (backTo cpos (starEach es X.env)).any (·.1) = false := by rfl) :
    SS X W (.Raise (some (.Call (.Name x p) (e :: es) [] cpos)) none pos) (mRaiseF x fs ma) := by
  obtain ⟨C, fI, fd, hm, n, T, iC, tI, F1, hb⟩ := r.ex
  refine ps_imp (ps_raise hc tk (pmk_oex (ds := []) (dvs := []) T iC tI F1 (rm.mono hk) hb .nil pass0 hg hm ha hdb he hpl)) fun D σ H w => ?_
  obtain ⟨ρ, M, env, Rl, E, w⟩ := w
  refine andS_tm Rl E w fun ds M1 ρ1 H1 vs R1 E1 dv q1 => ?_
  split at q1
  · rename_i hz
    refine ⟨by rw [← dv.length]; exact hz.2, fun a na => ⟨a, vs, by rw [List.append_nil], by rw [← dv.length]; exact hz.1, upd_same, fun d hd ne => ⟨rfl, d, (fs.zip vs).reverse, upd_same, by rw [upd_ne ne]; exact upd_same, by rw [upd_ne ne] at hd; exact hd, ?_⟩⟩⟩
    have nd : H1 d = none := by rw [upd_ne ne] at hd; exact hd
    have eh : upd (L2.del (upd (upd (upd H1 a (L2.exo a C none)) d (exd d (fs.zip vs).reverse)) a (L2.exo a C (some d))) a) d (.xd (fs.zip vs).reverse) = upd H1 d (.xd (fs.zip vs).reverse) := by
      funext b
      by_cases hb : b = d
      · subst hb
        rw [upd_same, upd_same]
      · rw [upd_ne hb, upd_ne hb]
        by_cases ha : b = a
        · subst ha
          rw [del_same, na]
        · rw [del_ne ha, upd_ne ha, upd_ne hb, upd_ne ha]
    show W (.ref C) (some d) σ (upd _ d _)
    rw [eh]
    have S : Stp ρ1 H1 ρ1 (upd H1 d (.xd (fs.zip vs).reverse)) := Stp.alloc nd
    exact q1 ρ1 _ (some d) σ (.ref C) (.inl n) S (R1.alloc nd) ⟨d, _, rfl, upd_same, DenP.step R1 S (denP_rev (denP_zip2 dv))⟩ (E1.step R1 S)
  · exact q1.elim
end
end Mi

end

section
/-! Mi, part 27: tables of the text asked for a key; defs held in names; no def; lists told away; pop; min. -/
namespace Mi
open PySem PySem.Spec PyProof.Rows L2
/-! ### x in TABLE -/
def KeysOf : List DictEntry → List Str → Prop
  | [], [] => True
  | e :: r, k :: ks => (∃ t, e.key = .str k t) ∧ KeysOf r ks
  | _, _ => False
/-- a table of the text, its keys known whole -/
def KTabA (K : PySem.W.Frag) (w : World) (x : Str) (ks : List Str) : Prop := ∃ p es n, PySem.W.nsIn K mainGlobals x = some (some (.ref p)) ∧ KDict K w p es n ∧ KeysOf es.toList ks
theorem keys_find {z : Str} : ∀ {es : List DictEntry} {ks : List Str}, KeysOf es ks → (es.find? (·.key.isStr z)).isSome = ks.any (fun k => decide (k = z)) ∧ es.any (·.refKey) = false
  | [], [], _ => ⟨rfl, rfl⟩
  | [], _ :: _, h => h.elim
  | _ :: _, [], h => h.elim
  | e :: es, k :: ks, h => by
    obtain ⟨⟨t, ht⟩, h2⟩ := h
    obtain ⟨i1, i2⟩ := keys_find (z := z) h2
    have hr : e.refKey = false := by unfold DictEntry.refKey; rw [ht] <;> rfl
    refine ⟨?_, by rw [List.any_cons, hr, i2]; rfl⟩
    rw [List.find?_cons, List.any_cons]
    have e1 : e.key.isStr z = decide (k = z) := by
      rw [ht]
      by_cases q : k = z
      · subst q; simp [Value.isStr]
      · rw [decide_eq_false q]
        show (k == z) = false
        simpa using q
    rw [e1]
    cases decide (k = z) with
    | true => rfl
    | false => exact i1
theorem keys_ns {K : PySem.W.Frag} {p : Addr} {c : Value} {d : Option Addr} {es : Array DictEntry} {n : Nat} {sl : Array (Option Value)} {ks : List Str} {z : Str} (l : K.lookup p = some ⟨c, d, .dict es n, sl⟩) (h : KeysOf es.toList ks) : ∃ r, PySem.W.nsIn K p z = some r ∧ r.isSome = ks.any (fun k => decide (k = z)) := by
  obtain ⟨h1, h2⟩ := keys_find (z := z) h
  unfold PySem.W.nsIn
  rw [l]
  simp only
  cases e : es.toList.find? (·.key.isStr z) with
  | none =>
    rw [e] at h1
    exact ⟨none, by simp only [h2]; rfl, h1⟩
  | some en =>
    rw [e] at h1
    exact ⟨some en.val, rfl, h1⟩
def inTD (x : Str) (ks : List Str) (neg : Bool) : Op2 := fun a b M => match a, b with
  | .str z, .fn y => if y = x then .ok (.bl (ks.any (fun k => decide (k = z)) != neg)) M else .err
  | _, _ => .err
theorem q_inT {x : Str} {ks : List Str} {neg : Bool} : Quiet2 (inTD x ks neg) := by
  intro a b M c fs M' e
  unfold inTD at e
  (repeat' split at e) <;> cases e
section
variable {X : Cx} {W : WX}
theorem o_inT {x : Str} {ks : List Str} (ok : KTabA X.K X.w x ks) : Op2R X (compareOp .In) (inTD x ks false) := by
  intro ρ M H a b v w Q Rl da db h
  unfold inTD at h
  split at h
  · rename_i z y
    split at h
    · rename_i e
      subst e
      rw [den_str] at da
      subst da
      obtain ⟨p, h1, rfl⟩ := den_fn.mp db
      obtain ⟨p', es, n, g1, g2, g3⟩ := ok
      rw [h1] at g1
      cases g1
      obtain ⟨r, r1, r2⟩ := keys_ns (z := z) g2.at_ g3
      refine ⟨_, op_in_kd g2, z, r, rfl, rfl, r1, ?_⟩
      rw [r2]
      have q := here Rl h (den_bl.mpr rfl)
      simpa using q
    · exact h.elim
  · exact h.elim
theorem o_notInT {x : Str} {ks : List Str} (ok : KTabA X.K X.w x ks) : Op2R X (compareOp .NotIn) (inTD x ks true) := by
  intro ρ M H a b v w Q Rl da db h
  unfold inTD at h
  split at h
  · rename_i z y
    split at h
    · rename_i e
      subst e
      rw [den_str] at da
      subst da
      obtain ⟨p, h1, rfl⟩ := den_fn.mp db
      obtain ⟨p', es, n, g1, g2, g3⟩ := ok
      rw [h1] at g1
      cases g1
      obtain ⟨r, r1, r2⟩ := keys_ns (z := z) g2.at_ g3
      refine ⟨_, op_notIn_kd g2, z, r, rfl, rfl, r1, ?_⟩
      rw [r2]
      have q := here Rl h (den_bl.mpr rfl)
      simpa using q
    · exact h.elim
  · exact h.elim
theorem fix_fn {K : PySem.W.Frag} {n : Str} {a : Addr} (h : PySem.W.nsIn K mainGlobals n = some (some (.ref a))) : Fix K (.fn n) (.ref a) := fun _ _ => den_fn.mpr ⟨a, h, rfl⟩

/-! ### a def held in a name is called -/
def mCallV (fs : List (Str × MF)) (i n : Nat) (ma : MA) : ME := fun env M => match env[i]? with
  | some (some (.fn nm)) => match fs.find? (fun p => decide (p.1 = nm)) with
    | some p => (ma env M).bind fun us M1 => callM p.2 n 0 ((List.range n).map .p) [] us [] M1
    | none => .err
  | _ => .err
/-- such defs -/
def FmAll (P : Program) (w : World) (K : PySem.W.Frag) (mg : Str → Option Value) (base : Heap) (k n : Nat) (fs : List (Str × MF)) : Prop := ∀ p ∈ fs, ∃ (f : Addr) (fd : FuncData) (ps : List Str), mg p.1 = some (.ref f) ∧ PySem.W.keepIn K (.ref f) = true ∧ FnG P w K mg base k f fd ps (spM K ps.length p.2) ∧ ps.length = n ∧ Bd K fd ps n [] [] ((List.range n).map .p)
theorem FmAll.one {P : Program} {w : World} {K : PySem.W.Frag} {mg : Str → Option Value} {base : Heap} {k j n : Nat} {x : Str} {st : Stmt} {ps : List Str} {m : MF} (F : Fm P w K mg base j x st [] [] ps m) (hj : j ≤ k) (hn : ps.length = n) (bd : ∀ f fd, FunD K x x (defArgs st) (defBody st) (defScope st) [] [] f fd → Bd K fd ps n [] [] ((List.range n).map .p)) :
    ∃ (f : Addr) (fd : FuncData) (ps : List Str), mg x = some (.ref f) ∧ PySem.W.keepIn K (.ref f) = true ∧ FnG P w K mg base k f fd ps (spM K ps.length m) ∧ ps.length = n ∧ Bd K fd ps n [] [] ((List.range n).map .p) := by
  obtain ⟨f, fd, a, b, c⟩ := F.ex
  exact ⟨f, fd, ps, a, b.kp, c.mono hj, hn, bd f fd b⟩
theorem s_callV {fs : List (Str × MF)} {k j i n : Nat} {x : Str} {p pos : Pos} {e : Expr} {es : List Expr} {ma : MA} (F : FmAll X.prog X.w X.K X.mg X.base j n fs) (c : Cg X W k) (hj : j ≤ k) (ha : SA X W (e :: es) ma)
    (hN : X.N[i]? = some x := by rfl) (hv : Vis X.env.scope x := by first | exact Or.inl rfl | exact Or.inr (Or.inl rfl) | exact Or.inr (Or.inr rfl)) (hd : (x == ("__debug__" : Str)) = false := by decide) (hcd : (x == ("__classdict__" : Str)) = false := by decide)
    (he : starEach (e :: es) X.env = (false, eval e X.env) :: starEach es X.env := by rfl) (hpl : (backTo pos (starEach es X.env)).any (·.1) = false := by rfl) :
    SE X W (.Call (.Name x p) (e :: es) [] pos) (mCallV fs i n ma) := by
  refine ⟨fun pins s σ H Q I h => ?_⟩
  obtain ⟨ρ, M, env, Rl, E, h⟩ := h
  unfold mCallV at h
  split at h
  rotate_left
  · exact h.elim
  rename_i nm ei
  split at h
  rotate_left
  · exact h.elim
  rename_i q eq
  obtain ⟨v, h1, h2⟩ := E.get i _ ei
  obtain ⟨a, na, rfl⟩ := den_fn.mp h2
  have hq : q.1 = nm := by simpa using List.find?_some eq
  obtain ⟨f, fd, ps, g1, g2, g3, g4, g5⟩ := F q (List.mem_of_find?_eq_some eq)
  have g0 : X.mg nm = some (.ref a) := PySem.W.mg_of I.ok.mod.kin I.ok.mod.glob na
  rw [hq, g0] at g1
  cases g1
  refine wpAny_Call_Name_kw (thn ((pe_var hN hv hd hcd).run pins s σ H (fun u H1 => u = .ref a ∧ H1 = H) I ⟨_, h1, rfl, rfl⟩) fun u s0 ⟨x0, H0, I0, ru, eu, eH⟩ => ?_)
  subst eu eH
  obtain rfl : u = Value.ref a := ru
  refine PySem.W.callWith_K (h₀ := X.base) I0.ok.mod.kin g2 (thn (ha.run pos pins s0 σ H0 (fun vs H1 => ∃ ρ M ds, Rel X.K ρ M H1 ∧ Dens X.K ρ H1 ds vs ∧ Ok X.K ρ H1 (DnD X.K) (fun c d H' => W c d σ H') Q (callM q.2 n 0 ((List.range n).map .p) [] ds [] M)) I0 ?_)
    fun us s1 ⟨vs, H1, I1, r, ρ, M, ds, Rl, d1, q⟩ => ⟨I1.kIn, ?_⟩) he hpl
  · exact tm_bind (f := fun ds env M1 => callM q.2 n 0 ((List.range n).map .p) [] ds [] M1) ⟨ρ, M, env, Rl, E, h⟩ fun ds M1 ρ1 H1 vs env R1 E1 d1 q => ⟨ρ1, M1, ds, R1, d1, q⟩
  · exact call_m (ks := []) (ws := []) (xs := []) (es := []) (dv := []) g3 c hj g5 (fun _ _ => dens_nil.mpr rfl) (by rw [List.length_map, List.length_range]; exact g4.symm) I1 Rl r .nil d1 (dens_nil.mpr rfl) q
end
/-- a def of which nothing is told -/
def mErrF : MF := fun _ _ => .err
theorem fm_err {P : Program} {w : World} {K : PySem.W.Frag} {mg : Str → Option Value} {base : Heap} {k : Nat} {x : Str} {st : Stmt} {dvs : List V} {kws : List (Str × V)} {ps : List Str} (a : At K mg x st dvs kws) : Fm P w K mg base k x st dvs kws ps mErrF := by
  obtain ⟨f, fd, hm, F⟩ := a
  exact ⟨f, fd, hm, F, ⟨fun vs H Q E h => h.1, fun A outer s H args us vs Q E _ _ _ _ _ h => by
    obtain ⟨_, _, _, _, _, _, z⟩ := h
    exact z.elim⟩⟩

/-! ### a cell that is told away as a plain value -/
def Rho.off (ρ : Rho) (l : Nat) : Rho := ⟨ρ.c.set l none, ρ.h⟩
section
variable {K : PySem.W.Frag} {ρ : Rho} {M : MH} {H : Hp}
theorem off_mem {l : Nat} {a : Addr} (h : some a ∈ (ρ.off l).c) : some a ∈ ρ.c := by
  rcases List.mem_or_eq_of_mem_set h with h | h
  · exact h
  · cases h
theorem off_get {l j : Nat} {o : Option Addr} (h : ρ.c[j]? = some o) : (ρ.off l).c[j]? = some o ∨ (ρ.off l).c[j]? = some none := by
  by_cases q : l = j
  · subst q
    exact .inr (List.getElem?_set_self (List.getElem?_eq_some_iff.mp h).1)
  · exact .inl (by show (ρ.c.set l none)[j]? = _; rw [List.getElem?_set_ne q]; exact h)
theorem Stp.off (l : Nat) : Stp ρ H (ρ.off l) H := ⟨fun _ _ h => off_get h, fun _ h => .inl (off_mem h), fun _ _ h _ => h, rfl⟩
theorem Rel.off (R : Rel K ρ M H) {l : Nat} (hl : l < M.length) : Rel K (ρ.off l) (M.set l .gone) H where
  len := by
    show (ρ.c.set l none).length = _
    rw [List.length_set, List.length_set]; exact R.len
  hid := fun a m => let ⟨n, x⟩ := R.hid a m; ⟨fun z => n (off_mem z), x⟩
  inj := fun i j a h1 h2 => by
    have g : ∀ k : Nat, (ρ.off l).c[k]? = some (some a) → ρ.c[k]? = some (some a) := fun k h => by
      have h : (ρ.c.set l none)[k]? = some (some a) := h
      by_cases q : l = k
      · subst q
        rw [List.getElem?_set_self (by rw [R.len]; exact hl)] at h
        cases h
      · rw [List.getElem?_set_ne q] at h
        exact h
    exact R.inj i j a (g i h1) (g j h2)
  obj := fun j o e => by
    by_cases q : l = j
    · subst q
      rw [List.getElem?_set_self hl] at e
      cases e
      show (ρ.c.set l none)[l]? = some none
      exact List.getElem?_set_self (by rw [R.len]; exact hl)
    · rw [List.getElem?_set_ne q] at e
      have same : ∀ a : Option Addr, ρ.c[j]? = some a → (ρ.off l).c[j]? = some a := fun a h => by
        show (ρ.c.set l none)[j]? = _
        rw [List.getElem?_set_ne q]; exact h
      have x := R.obj j o e
      cases o with
      | lst ds =>
        obtain ⟨a, xs, h1, h2, h3⟩ := x
        exact ⟨a, xs, same _ h1, h2, Dens.step R (Stp.off l) _ _ h3⟩
      | dct kvs =>
        obtain ⟨a, xs, h1, h2, h3⟩ := x
        exact ⟨a, xs, same _ h1, h2, DenP.step R (Stp.off l) h3⟩
      | ins C fs =>
        obtain ⟨a, Ca, dx, gs, h1, cn, h2, h3⟩ := x
        exact ⟨a, Ca, dx, gs, same _ h1, cn, h2, DenP.step R (Stp.off l) h3⟩
      | gone => exact same _ x
theorem denP_split {κ : Type} {ps : List (κ × D)} {qs : List (κ × V)} (h : DenP K ρ H ps qs) : qs.map (·.1) = ps.map (·.1) ∧ Dens K ρ H (ps.map (·.2)) (qs.map (·.2)) := by
  induction h with
  | nil => exact ⟨rfl, dens_nil.mpr rfl⟩
  | cons r _ ih => exact ⟨by rw [List.map_cons, List.map_cons, ih.1, r.1], dens_cons.mpr ⟨_, _, rfl, r.2, ih.2⟩⟩
theorem off_not (R : Rel K ρ M H) {l : Nat} {a : Addr} (h : ρ.c[l]? = some (some a)) : some a ∉ (ρ.off l).c := fun m => by
  obtain ⟨j, hj⟩ := List.getElem?_of_mem m
  have hj : (ρ.c.set l none)[j]? = some (some a) := hj
  by_cases q : l = j
  · subst q
    rw [List.getElem?_set_self (List.getElem?_eq_some_iff.mp h).1] at hj
    cases hj
  · rw [List.getElem?_set_ne q] at hj
    exact q (R.inj l j a h hj)
end
section
variable {X : Cx} {W : WX}
/-! ### methods without arguments; xs.pop() -/
def mMt0 (T : String) (g : OpM) (mo : ME) : ME := fun env M => (mo env M).bind fun x M1 => if rcv T x M1 = true then g x [] M1 else .err
theorem s_mt0 {o : Expr} {mo : ME} {name : Str} {apos cpos : Pos} {T id : String} {g : OpM} (pa : PlainAttrs T) (slot : Slot T name id) (hty : typeOf (.builtin id) = pure (.type "method_descriptor")) (om : OpMR X id g) (q : QuietM g) (ho : SE X W o mo)
    (hbase : attributeBase o name X.env (eval o X.env) = eval o X.env := by rfl) (hline : (apos.endLine == cpos.line) = true := by rfl) : SE X W (.Call (.Attribute o name apos) [] [] cpos) (mMt0 T g mo) := by
  refine ⟨fun pins s σ H Q I h => ?_⟩
  refine (pe_bm0 (r := fun x xs H Q => ∃ r, MtR X id r ∧ r x xs H Q) pa slot hty (fun pins s σ H x xs v us Q I rx rxs ⟨r, hr, h⟩ => hr pins s σ H x xs v us Q I rx rxs h) ho hbase hline).run pins s σ H Q I ?_
  refine tm_bind (f := fun x env M1 => if rcv T x M1 = true then g x [] M1 else .err) h fun x M1 ρ1 H1 v env R1 E1 dx h => ?_
  split at h
  · rename_i rc
    exact ⟨rcv_ty R1 dx rc, om ρ1 M1 H1 x [] v [] Q R1 dx (dens_nil.mpr rfl) (ok_quiet (q x [] M1) h)⟩
  · exact h.elim
def popD : OpM := fun x xs M => match x with
  | .ref l => match M[l]? with
    | some (.lst ds) => match xs with
      | [] => match ds[ds.length - 1]? with
        | some y => .ok y (M.set l (.lst ds.dropLast))
        | none => .err
      | _ => .err
    | _ => .err
  | _ => .err
theorem q_pop : QuietM popD := by
  intro x xs M c fs M' e
  unfold popD at e
  (repeat' split at e) <;> cases e
theorem Dens.dropLast {K : PySem.W.Frag} {ρ : Rho} {H : Hp} {ds : List D} {xs : List V} (h : Dens K ρ H ds xs) : Dens K ρ H ds.dropLast xs.dropLast := by
  rw [List.dropLast_eq_take, List.dropLast_eq_take, h.length]
  exact h.take _
theorem o_pop : OpMR X "list.pop" popD := by
  intro ρ M H x xs v vs Q Rl dx dv h
  unfold popD at h
  split at h
  · rename_i l
    obtain ⟨p, u, rfl, hl, ho⟩ := den_ref.mp dx
    split at h
    · rename_i ds hm
      obtain ⟨b, ys, h1, h2, h3⟩ := Rl.obj l _ hm
      have hl2 := h1
      rw [hl] at h1
      cases h1
      have ep := ho b rfl
      subst ep
      split at h
      · split at h
        · rename_i y ey
          obtain ⟨w, e1, e2⟩ := h3.get ey
          have S : Stp ρ H ρ (upd H b (.lst ys.dropLast)) := Stp.write hl2
          rw [dens_nil] at dv
          refine ⟨_, mt_pop, b, ys, w, rfl, dv, h2, by rw [← h3.length]; exact e1, ?_⟩
          exact h ρ _ w S (Rl.write hl2 ⟨b, ys.dropLast, hl2, upd_same, Dens.step Rl S _ _ h3.dropLast⟩) (Den.step Rl S _ _ e2)
        · exact h.elim
      · exact h.elim
    · exact h.elim
  · exact h.elim
theorem s_pop {o : Expr} {mo : ME} {apos cpos : Pos} (ho : SE X W o mo) (hbase : attributeBase o "pop" X.env (eval o X.env) = eval o X.env := by rfl) (hline : (apos.endLine == cpos.line) = true := by rfl) : SE X W (.Call (.Attribute o "pop" apos) [] [] cpos) (mMt0 "list" popD mo) :=
  s_mt0 PySem.F.plainAttrs_list PySem.F.slot_list_pop PySem.F.type_list_pop o_pop q_pop ho hbase hline

/-! ### min, max of whole numbers in a list -/
def leastI : List Int → Option Int
  | [] => none
  | n :: ns => some (ns.foldl min n)
def greatI : List Int → Option Int
  | [] => none
  | n :: ns => some (ns.foldl max n)
theorem foldl_min : ∀ (ns : List Int) (n : Int), (ns.foldl min n = n ∨ ns.foldl min n ∈ ns) ∧ ns.foldl min n ≤ n ∧ ∀ y ∈ ns, ns.foldl min n ≤ y
  | [], n => ⟨.inl rfl, by simp, fun y h => by simp at h⟩
  | m :: ns, n => by
    obtain ⟨h1, h2, h3⟩ := foldl_min ns (min n m)
    show ((ns.foldl min (min n m) = n ∨ ns.foldl min (min n m) ∈ m :: ns) ∧ ns.foldl min (min n m) ≤ n ∧ ∀ y ∈ m :: ns, ns.foldl min (min n m) ≤ y)
    refine ⟨?_, by omega, fun y hy => ?_⟩
    · rcases h1 with h1 | h1
      · rw [h1]
        by_cases q : n ≤ m
        · exact .inl (by omega)
        · exact .inr (by rw [show min n m = m by omega]; exact List.mem_cons_self)
      · exact .inr (List.mem_cons_of_mem _ h1)
    · rcases List.mem_cons.mp hy with rfl | hy
      · omega
      · exact h3 y hy
theorem leastI_of {ns : List Int} {m : Int} (h : m ∈ ns) (l : ∀ y ∈ ns, m ≤ y) : leastI ns = some m := by
  cases ns with
  | nil => simp at h
  | cons n ns =>
    obtain ⟨h1, h2, h3⟩ := foldl_min ns n
    have a : m ≤ ns.foldl min n := by
      rcases h1 with h1 | h1
      · rw [h1]; exact l n List.mem_cons_self
      · exact l _ (List.mem_cons_of_mem _ h1)
    have b : ns.foldl min n ≤ m := by
      rcases List.mem_cons.mp h with rfl | h
      · exact h2
      · exact h3 m h
    show some (ns.foldl min n) = some m
    rw [show ns.foldl min n = m by omega]
def min1D : OpN := fun xs M => match xs with
  | [.lst ds] => match intsD ds with
    | some ns => match leastI ns with
      | some m => .ok (.int m) M
      | none => .err
    | none => .err
  | _ => .err
theorem q_min1 : QuietN min1D := by
  intro x M c fs M' e
  unfold min1D at e
  (repeat' split at e) <;> cases e
theorem o_min1 (hc : X.calm = true) : OpNR X (.builtin "min") min1D := by
  intro ρ M H xs vs Q Rl dv h
  unfold min1D at h
  split at h
  · obtain ⟨v, rfl, d⟩ := dens_one dv
    obtain ⟨a, ys, rfl, hs, hd⟩ := den_lst.mp d
    split at h
    · rename_i ns e
      rw [intsD_eq e] at hd
      rw [dens_ints_inv hd] at hs
      split at h
      · rename_i m em
        refine ⟨_, cr_min hc, a, ns, rfl, hs.sq, ?_, fun k hk hle => ?_⟩
        · cases ns with
          | nil => cases em
          | cons _ _ => simp
        · rw [leastI_of hk hle] at em
          cases em
          exact here Rl h (den_int.mpr rfl)
      · exact h.elim
    · exact h.elim
  · exact h.elim
end
end Mi

end

section
/-! Mi, part 28: dict comprehensions; walks over a dict's keys. -/
namespace Mi
open PySem PySem.Spec PyProof.Rows L2
/-- one turn of a dict comprehension -/
def dcOne (g : D → En → Option En) (t : MT) (k v : ME) (env : En) : D → MH → R (Option (Key × D)) := fun x M => match g x env with
  | some env' => (noX (t env' M)).bind fun b M1 => if b = true then (noX (k env' M1)).bind fun y M2 => (noX (v env' M2)).bind fun z M3 => match keyOf y with
      | some kk => .ok (some (kk, z)) M3
      | none => .err
    else .ok none M1
  | none => .err
def dcPut (l : Nat) (o : Option (Key × D)) (M : MH) : Option MH := match o with
  | none => some M
  | some (k, z) => match M[l]? with
    | some (.dct kvs) => if kvs.length < lim then some (M.set l (.dct (putM kvs k z))) else none
    | _ => none
def dcGo (f : D → MH → R (Option (Key × D))) (l : Nat) : List D → MH → R Unit
  | [], M => .ok () M
  | x :: xs, M => (f x M).bind fun o M1 => match dcPut l o M1 with
    | some M2 => dcGo f l xs M2
    | none => .err
def mDc (mi : MA) (g : D → En → Option En) (t : MT) (k v : ME) (vs : List Nat) : ME := fun env M => (mi env M).bind fun items M1 => (dcGo (dcOne g t k v (wipeE env vs)) M1.length items (M1 ++ [.dct []])).bind fun _ M2 => .ok (.ref M1.length) M2
section
variable {K : PySem.W.Frag}
/-- how far it has come -/
def DcP (K : PySem.W.Frag) (ρ0 : Rho) (H0 : Hp) (l : Nat) (f : D → MH → R (Option (Key × D))) (items : List D) (M0 : MH) (i : Nat) (H : Hp) : Prop :=
  ∃ ρ M, Rel K ρ M H ∧ Stp ρ0 H0 ρ H ∧ dcGo f l items M0 = dcGo f l (items.drop i) M
theorem noX_ok {α : Type} (a : α) (M : MH) : noX (.ok a M) = .ok a M := rfl
theorem noX_err {α : Type} {r : R α} (h : noX r ≠ .err) : ∃ a M, r = .ok a M := by
  cases r with
  | ok a M => exact ⟨a, M, rfl⟩
  | exc c fs M => exact absurd rfl h
  | err => exact absurd rfl h
/-- the walk of a dict comprehension, whatever is walked -/
theorem dc_go {K : PySem.W.Frag} {js vs : List Nat} {g : D → En → Option En} {mt : MT} {mk mv : ME} {Wf : Value → Option Addr → Hp → Prop} {σ : L2.St} {Q : VK} {items : List D} {M1 : MH} {ρ1 : Rho} {H1 : Hp} {J : It} {env : En} {Dl : Addr} (hj : ∀ j ∈ js, j ∈ vs) (R1 : Rel K ρ1 M1 H1) (E1 : EnR K ρ1 H1 env σ) (wk : Wk K ρ1 H1 J items)
    (h : Ok K ρ1 H1 (DnD K) Wf Q ((dcGo (dcOne g mt mk mv (wipeE env vs)) M1.length items (M1 ++ [.dct []])).bind fun _ M2 => (R.ok (D.ref M1.length) M2 : R D))) (hD : H1 Dl = none) :
    ∃ W : Nat → Nat → Hp → Prop, (∃ m, W 0 m (upd H1 Dl (.dK []))) ∧ ∀ i m H, W i m H →
      (J.stop i H ∧ Q (.ref Dl) H) ∨ (J.go i H ∧ ∃ Nx : Hp → Prop, (∀ H', Nx H' → ∃ m', m' < m ∧ W (i + 1) m' H') ∧ ∀ x H', J.yld i H x H' → gW K js g x (L2.wipe σ vs) H' fun σ2 H2 => L2.wipe σ2 vs = L2.wipe σ vs ∧ tm K DnB W0 mt σ2 H2 fun b H3 =>
        if b = true then tm K (DnD K) W0 mk σ2 H3 fun y H4 => tm K (DnD K) W0 mv σ2 H4 fun z H5 => ∃ kvs k, y = kV k ∧ H5 Dl = some (.dK kvs) ∧ kvs.length < sizeLine ∧ Nx (upd H5 Dl (.dK (putK kvs k z))) else Nx H3) := by
  have wk' : Wk K ρ1 H1 J items := wk
  have S0 : Stp ρ1 H1 (ρ1.add Dl) (upd H1 Dl (.dK [])) := Stp.cell hD
  have R0 : Rel K (ρ1.add Dl) (M1 ++ [.dct []]) (upd H1 Dl (.dK [])) := R1.cell hD ⟨Dl, [], R1.lastAt, upd_same, .nil⟩
  have at0 : (ρ1.add Dl).c[M1.length]? = some (some Dl) := R1.lastAt
  have tot : dcGo (dcOne g mt mk mv (wipeE env vs)) M1.length items (M1 ++ [.dct []]) ≠ .err := fun e => by
    rw [e] at h
    exact h
  refine ⟨fun i m H' => m = items.length - i ∧ i ≤ items.length ∧ DcP K (ρ1.add Dl) (upd H1 Dl (.dK [])) M1.length (dcOne g mt mk mv (wipeE env vs)) items (M1 ++ [.dct []]) i H', ⟨items.length, by simp, Nat.zero_le _, ρ1.add Dl, M1 ++ [.dct []], R0, Stp.refl (K := K) (M := M1 ++ [.dct []]), by rw [List.drop_zero]⟩, ?_⟩
  rintro i m H' ⟨rfl, hi', ρ, M, Rl, S, eq⟩
  have S1 : Stp ρ1 H1 ρ H' := S0.trans S
  have T1 : Tr ρ1 H1 ρ H' := S1.tr R1
  by_cases hlt : i < items.length
  · refine .inr ⟨wk'.goes i _ M H' hlt Rl T1 (S1.fk R1), fun H'' => i + 1 ≤ items.length ∧ DcP K (ρ1.add Dl) (upd H1 Dl (.dK [])) M1.length (dcOne g mt mk mv (wipeE env vs)) items (M1 ++ [.dct []]) (i + 1) H'', fun H'' p => ⟨items.length - (i + 1), by omega, rfl, p.1, p.2⟩, fun x H2 y => ?_⟩
    have hx : items[i]? = some items[i] := List.getElem?_eq_getElem hlt
    obtain ⟨R2, S2, dx⟩ := wk'.yields i _ M H' x H2 items[i] hx Rl T1 (S1.fk R1) y
    rw [drop_cons hx] at eq
    have nerr : (dcOne g mt mk mv (wipeE env vs) items[i] M).bind (fun o M1' => match dcPut M1.length o M1' with | some M2 => dcGo (dcOne g mt mk mv (wipeE env vs)) M1.length (items.drop (i + 1)) M2 | none => .err) ≠ .err := fun z => tot (by rw [eq]; exact z)
    cases hgx : g items[i] (wipeE env vs) with
    | none =>
      refine absurd ?_ nerr
      unfold dcOne
      rw [hgx]
      rfl
    | some env' =>
      have step : dcOne g mt mk mv (wipeE env vs) items[i] M = (noX (mt env' M)).bind fun b M1 => if b = true then (noX (mk env' M1)).bind fun y M2 => (noX (mv env' M2)).bind fun z M3 => match keyOf y with | some kk => .ok (some (kk, z)) M3 | none => .err else .ok none M1 := by
        unfold dcOne
        rw [hgx]
      rw [step] at nerr
      have eq2 : dcGo (dcOne g mt mk mv (wipeE env vs)) M1.length items (M1 ++ [.dct []]) = (dcOne g mt mk mv (wipeE env vs) items[i] M).bind fun o M1' => match dcPut M1.length o M1' with | some M2 => dcGo (dcOne g mt mk mv (wipeE env vs)) M1.length (items.drop (i + 1)) M2 | none => .err := eq
      rw [step] at eq2
      have E2 : EnR K ρ H2 (wipeE env vs) (L2.wipe σ vs) := ((E1.tr T1).step Rl S2).wipe _
      refine ⟨ρ, M, items[i], _, env', R2, E2, dx, hgx, fun σ2 E3 l3 keep => ⟨wipe_same (by rw [l3, wipe_length]) fun k hk => keep k fun z => hk (hj k z), ?_⟩⟩
      refine ⟨ρ, M, env', R2, E3, ?_⟩
      obtain ⟨b, M3, ht1⟩ := noX_err (r := mt env' M) (fun z => nerr (by rw [z]; rfl))
      rw [ht1] at nerr eq2 ⊢
      simp only [noX_ok, R.bind_ok] at nerr eq2
      intro ρ3 H3 b' S3 R3 eb
      cases (show b = b' from eb)
      have Sx : Stp (ρ1.add Dl) (upd H1 Dl (.dK [])) ρ3 H3 := (S.trans S2).trans S3
      cases b with
      | false =>
        show (if false = true then _ else _)
        rw [if_neg (by decide)]
        exact ⟨hlt, ρ3, M3, R3, Sx, eq2⟩
      | true =>
        show (if true = true then _ else _)
        rw [if_pos rfl]
        simp only [if_true] at nerr eq2
        refine ⟨ρ3, M3, env', R3, E3.step R2 S3, ?_⟩
        obtain ⟨y, M4, hk1⟩ := noX_err (r := mk env' M3) (fun z => nerr (by rw [z]; rfl))
        rw [hk1] at nerr eq2 ⊢
        simp only [noX_ok, R.bind_ok] at nerr eq2
        intro ρ4 H4 vy S4 R4 dy
        refine ⟨ρ4, M4, env', R4, (E3.step R2 S3).step R3 S4, ?_⟩
        obtain ⟨z, M5, hv1⟩ := noX_err (r := mv env' M4) (fun z => nerr (by rw [z]; rfl))
        rw [hv1] at nerr eq2 ⊢
        simp only [noX_ok, R.bind_ok] at nerr eq2
        intro ρ5 H5 vz S5 R5 dz
        cases hkey : keyOf y with
        | none => rw [hkey] at nerr; exact absurd rfl nerr
        | some kk =>
          rw [hkey] at nerr eq2
          simp only [R.bind_ok] at nerr eq2
          have Sy : Stp (ρ1.add Dl) (upd H1 Dl (.dK [])) ρ5 H5 := (Sx.trans S4).trans S5
          have hput : ∃ kvs, M5[M1.length]? = some (.dct kvs) ∧ kvs.length < lim := by
            unfold dcPut at nerr
            simp only at nerr
            split at nerr
            · rename_i M2 e
              split at e
              · rename_i kvs hm
                split at e
                · rename_i hz
                  exact ⟨kvs, hm, hz⟩
                · cases e
              · cases e
            · exact absurd rfl nerr
          obtain ⟨kvs, hm, hz⟩ := hput
          have eput : dcPut M1.length (some (kk, z)) M5 = some (M5.set M1.length (.dct (putM kvs kk z))) := by
            unfold dcPut
            simp only [hm]
            rw [if_pos hz]
          rw [eput] at eq2
          obtain ⟨a, ks, h1, h2, h3⟩ := R5.obj _ _ hm
          have ea : a = Dl := by
            rcases Sy.pre _ _ at0 with q | q
            · rw [h1] at q; cases q; rfl
            · rw [h1] at q; cases q
          subst ea
          have SS : Stp ρ5 H5 ρ5 (upd H5 a (.dK (putK ks kk vz))) := Stp.write h1
          refine ⟨ks, kk, ?_, h2, by rw [← Paired.length h3]; exact lim_lt hz, hlt, ρ5, M5.set M1.length (.dct (putM kvs kk z)), R5.write h1 ⟨a, putK ks kk vz, h1, upd_same, DenP.step R5 SS (denP_put h3 dz)⟩, Sy.trans SS, eq2⟩
          exact keyOf_v hkey (Den.step R4 S5 _ _ dy)
  · have e : i = items.length := by omega
    subst e
    refine .inl ⟨wk'.stops _ M H' Rl T1 (S1.fk R1), ?_⟩
    rw [List.drop_length] at eq
    have eq2 : dcGo (dcOne g mt mk mv (wipeE env vs)) M1.length items (M1 ++ [.dct []]) = .ok () M := eq
    rw [eq2] at h
    refine h ρ H' (.ref Dl) S1 Rl ?_
    rcases S.pre _ _ at0 with q | q
    · exact den_ref.mpr ⟨Dl, some Dl, rfl, q, fun b e => (Option.some.inj e).symm⟩
    · exact den_ref.mpr ⟨Dl, none, rfl, q, fun b e => by cases e⟩
theorem dc_imp {K : PySem.W.Frag} {mi : MA} {js vs : List Nat} {g : D → En → Option En} {mt : MT} {mk mv : ME} {W : WX} {σ : L2.St} {H : Hp} {Q : VK} (hj : ∀ j ∈ js, j ∈ vs) (h : tm K (DnD K) W (mDc mi g mt mk mv vs) σ H Q) :
    tDc (tm K (DnI K) W mi) (gW K js g) (tm K DnB W0 mt) (tm K (DnD K) W0 mk) (tm K (DnD K) W0 mv) vs σ H Q := by
  refine tm_bind (f := fun items env M1 => (dcGo (dcOne g mt mk mv (wipeE env vs)) M1.length items (M1 ++ [.dct []])).bind fun _ M2 => (R.ok (D.ref M1.length) M2 : R D)) h fun items M1 ρ1 H1 J env R1 E1 wk h => ?_
  exact fun Dl hD => dc_go hj R1 E1 wk h hD
/-! ### over a dict's keys: it is locked meanwhile -/
def keyD : Key → D
  | .inl i => .int i
  | .inr x => .str x
theorem den_key {K : PySem.W.Frag} {ρ : Rho} {H : Hp} (k : Key) : Den K ρ H (keyD k) (kV k) := by
  cases k with
  | inl i => exact den_int.mpr rfl
  | inr x => exact den_str.mpr rfl
theorem wk_keys {K : PySem.W.Frag} {ρ : Rho} {M : MH} {H : Hp} {d : Addr} {o : Obj} {kvs : List (Key × V)} (hd : H d = some (.frz o (.dK kvs))) : Wk K ρ H (Itk d o kvs) ((kvs.map (·.1)).map keyD) where
  goes := fun i ρ' M' H' hi R' S f => ⟨f d o _ hd, by simpa using hi⟩
  stops := fun ρ' M' H' R' S f => ⟨f d o _ hd, by simp⟩
  yields := fun i ρ' M' H' x H'' e he R' S f y => by
    obtain ⟨rfl, k, v, h1, rfl⟩ := y
    rw [List.getElem?_map, List.getElem?_map, h1] at he
    cases he
    exact ⟨R', Stp.refl (K := K) (M := M'), den_key k⟩
section
variable {K : PySem.W.Frag} {ρ : Rho} {M : MH} {H : Hp} {d : Addr} {o : Obj} {kvs : List (Key × V)}
theorem Tr.lock (hd : H d = some (.dK kvs)) : Tr ρ H ρ (upd H d (.frz o (.dK kvs))) where
  pre := fun _ _ h => .inl h
  lst := fun a xs h n m => by
    have ne : a ≠ d := fun e => by
      subst e
      rcases h with h | ⟨u, h⟩ <;> (rw [hd] at h; cases h)
    refine ⟨?_, n, m⟩
    rcases h with h | ⟨u, h⟩
    · exact .inl (by rw [upd_ne ne]; exact h)
    · exact .inr ⟨u, by rw [upd_ne ne]; exact h⟩
  tup := fun a xs h => by
    have ne : a ≠ d := fun e => by
      subst e
      rcases h with h | ⟨u, h⟩ <;> (rw [hd] at h; cases h)
    rcases h with h | ⟨u, h⟩
    · exact .inl (by rw [upd_ne ne]; exact h)
    · exact .inr ⟨u, by rw [upd_ne ne]; exact h⟩
  dct := fun a ks ⟨u, h⟩ n => by
    have ne : a ≠ d := fun e => by subst e; rw [hd] at h; cases h
    exact ⟨⟨u, by rw [upd_ne ne]; exact h⟩, n⟩
  ext := fun a φ h => by
    have ne : a ≠ d := fun e => by subst e; rw [hd] at h; cases h
    rw [upd_ne ne]; exact h
  xd := fun a φ h => by
    have ne : a ≠ d := fun e => by subst e; rw [hd] at h; cases h
    rw [upd_ne ne]; exact h
/-- another thing at d, which is no cell: the cells stand -/
theorem Rel.at_d (R : Rel K ρ M H) {u v : HO} (hd : H d = some u) (nl : ∀ xs, u ≠ .lst xs) (n : some d ∉ ρ.c) (T : Tr ρ H ρ (upd H d v)) : Rel K ρ M (upd H d v) :=
  R.tr T rfl (fun a o m h => by
    have ne : a ≠ d := fun e => n (e ▸ m)
    rw [upd_ne ne]; exact h) fun a m => by
    obtain ⟨n2, xs, e⟩ := R.hid a m
    have ne : a ≠ d := fun z => by
      subst z
      rw [hd] at e
      exact nl xs (Option.some.inj e)
    exact ⟨n2, xs, by rw [upd_ne ne]; exact e⟩
theorem dcGo_ne {g : D → En → Option En} {t : MT} {k v : ME} {env : En} {l : Nat} : ∀ {items : List D} {M : MH} (c : Str) (fs : Option (List (Str × D))) (M' : MH), dcGo (dcOne g t k v env) l items M ≠ .exc c fs M'
  | [], M, c, fs, M', e => by cases e
  | x :: xs, M, c, fs, M', e => by
    unfold dcGo at e
    cases q : dcOne g t k v env x M with
    | ok o M1 =>
      rw [q] at e
      simp only [R.bind_ok] at e
      split at e
      · exact dcGo_ne c fs M' e
      · cases e
    | err => rw [q] at e; cases e
    | exc c2 f2 M2 =>
      unfold dcOne at q
      cases hg : g x env with
      | none => rw [hg] at q; cases q
      | some env' =>
        rw [hg] at q
        simp only at q
        cases ht : t env' M with
        | err => rw [ht] at q; cases q
        | exc _ _ _ => rw [ht] at q; cases q
        | ok b M3 =>
          rw [ht] at q
          simp only [noX_ok, R.bind_ok] at q
          cases b with
          | false => cases q
          | true =>
            simp only [if_true] at q
            cases hk : k env' M3 with
            | err => rw [hk] at q; cases q
            | exc _ _ _ => rw [hk] at q; cases q
            | ok y M4 =>
              rw [hk] at q
              simp only [noX_ok, R.bind_ok] at q
              cases hv : v env' M4 with
              | err => rw [hv] at q; cases q
              | exc _ _ _ => rw [hv] at q; cases q
              | ok z M5 =>
                rw [hv] at q
                simp only [noX_ok, R.bind_ok] at q
                split at q <;> cases q
end
/-- the keys of the dict in a slot -/
def mKeys (i : Nat) : MA := fun env M => match env[i]? with
  | some (some (.dct ks _)) => .ok (ks.map keyD) M
  | _ => .err
end
section
variable {X : Cx} {W : WX} {kx vx tg iter : Expr} {ifs : List Expr} {scope : Scope} {own : List (Str × Nat)} {pos : Pos} {mi : MA} {js : List Nat} {g : D → En → Option En} {mt : MT} {mk mv : ME}
theorem s_dc (hc : X.calm = true) (hN : X.N.Nodup) (hi : SI X W tg iter mi) (ok : BlkOk X.N X.env.scope scope own) (hj : ∀ j ∈ js, j ∈ own.map (·.2))
    (hg : ∀ (s : Shared) (H : Hp) (C : Addr) (cl : List (Str × Addr)) (fp : List Addr), SG (X.blk s H scope (compEnvC scope cl C X.env) fp) tg js g)
    (ht : ∀ (s : Shared) (H : Hp) (C : Addr) (cl : List (Str × Addr)) (fp : List Addr), SPt (X.blk s H scope (compEnvC scope cl C X.env) fp) W0 ifs mt)
    (hk : ∀ (s : Shared) (H : Hp) (C : Addr) (cl : List (Str × Addr)) (fp : List Addr), SE (X.blk s H scope (compEnvC scope cl C X.env) fp) W0 kx mk)
    (hv : ∀ (s : Shared) (H : Hp) (C : Addr) (cl : List (Str × Addr)) (fp : List Addr), SE (X.blk s H scope (compEnvC scope cl C X.env) fp) W0 vx mv) (hs : ∀ x, foldedSetIterable iter X.env x = pure x := by intro _; rfl) :
    SE X W (.DictComp kx vx [⟨tg, iter, ifs, 0⟩] scope pos) (mDc mi g mt mk mv (own.map (·.2))) :=
  pe_imp (pe_dc (g := gW X.K js g) (tt := tm X.K DnB W0 mt) (tk := tm X.K (DnD X.K) W0 mk) (tv := tm X.K (DnD X.K) W0 mv) hc hN hi ok (fun s H C cl fp => gW_of (hg s H C cl fp)) (fun s H C cl fp => ht s H C cl fp) (fun s H C cl fp => hk s H C cl fp) (fun s H C cl fp => hv s H C cl fp) hs) fun _ _ _ h => dc_imp hj h
/-- name = {..: .. for .. in ..} -/
theorem ps_setDc {i : Nat} {y : Str} {py spos : Pos} {wi : TI} {gt : TG} {tt : TT} {tk tv : TE} (hc : X.calm = true) (hN : X.N.Nodup) (hy : X.N[i]? = some y) (hyl : X.env.scope.names.lookup y = some .local) (hsw : swapsWith (.DictComp kx vx [⟨tg, iter, ifs, 0⟩] scope pos) (some (.Name y py)) spos.line X.env = pure true)
    (hi : PI X tg iter wi) (ok : BlkOk X.N X.env.scope scope own)
    (hg : ∀ (s : Shared) (H : Hp) (C : Addr) (cl : List (Str × Addr)) (fp : List Addr), PG (X.blk s H scope (compEnvC scope cl C X.env) fp) tg gt) (ht : ∀ (s : Shared) (H : Hp) (C : Addr) (cl : List (Str × Addr)) (fp : List Addr), PTs (X.blk s H scope (compEnvC scope cl C X.env) fp) ifs tt)
    (hk : ∀ (s : Shared) (H : Hp) (C : Addr) (cl : List (Str × Addr)) (fp : List Addr), PE (X.blk s H scope (compEnvC scope cl C X.env) fp) kx tk)
    (hv : ∀ (s : Shared) (H : Hp) (C : Addr) (cl : List (Str × Addr)) (fp : List Addr), PE (X.blk s H scope (compEnvC scope cl C X.env) fp) vx tv) (hs : ∀ x, foldedSetIterable iter X.env x = pure x := by intro _; rfl) :
    PS X (.Assign [.Name y py] (.DictComp kx vx [⟨tg, iter, ifs, 0⟩] scope pos) spos) (tAsg (tDc wi gt tt tk tv (own.map (·.2))) (gName i)) := by
  refine ⟨fun pins s σ H En I h => ?_⟩
  rw [exec_Assign_Name_used _ _ _ _ hsw]
  refine wpAny_bind (wpAny_standAt (wpAny_bind ?_))
  show wpAny _ X.A (do let _ ← comprehension (.DictComp kx vx [⟨tg, iter, ifs, 0⟩] scope pos) scope X.env (firstIterPos [⟨tg, iter, ifs, 0⟩] pos) newDict false (eval iter X.env) (some (assign (.Name y py) X.env))) _ _ s
  have h' : tDc wi gt tt tk tv (own.map (·.2)) σ H (fun x H1 => gName i x σ H1 En.nx) := h
  refine wpAny_bind (thn (dc_core (Qf := fun _ s' => SP X pins En .next s') hc hN I hi ok hg ht hk hv hs h' fun L C s' m H' I' q hn f => ?_) fun _ s' hq => wpAny_pure (wpAny_pure hq))
  show wpAny _ _ (assign (.Name y py) X.env (.ref L)) _ _ _
  refine wpAny_assign_Name (store_ok2 (v := V.ref L) I' hN hy (.inl hyl) rfl (fun s2 I2 ⟨a, sb, ha⟩ => ?_) (.inr hyl))
  rcases f with ⟨f0, f1, f2, f3, f4, f5⟩
  have far : C ≠ a := by
    rcases ha with z | z
    · exact fun e => f1 (e.trans z)
    · exact fun e => f4 y a z e.symm
  exact ⟨m, hn.sameBut sb far, fun h3 sb3 => ⟨_, H', I2.turned (t' := s2.toks) (fun b o hb e => (sb3.2 b hb).trans e) f0 f1 f3 f4 f5, q⟩⟩
theorem sw_dict {sc : Scope} {py : Pos} {y : Str} {l : Nat} {env : Env} {gs : List Comprehension} (hk : env.scope.kind = .function) (hy : env.scope.names.lookup y = some .local) (hl : (py.line == pos.line) = true)
    (ha : (sc.names.any fun (n, k) => n == y && (k == .local || k == .cell)) = false) : swapsWith (.DictComp kx vx gs sc pos) (some (.Name y py)) l env = pure true := by
  have ky : env.kindOf y = some .local := hy
  have hb : env.blockKind = .function := by unfold Env.blockKind; rw [hk]; rfl
  simp only [swapsWith, hb, ky, ha, Expr.pos, hl]
  rfl
theorem c_setDc {i : Nat} {y : Str} {py spos : Pos} (hc : X.calm = true) (hN : X.N.Nodup) (hi : SI X W tg iter mi) (ok : BlkOk X.N X.env.scope scope own) (hj : ∀ j ∈ js, j ∈ own.map (·.2))
    (hg : ∀ (s : Shared) (H : Hp) (C : Addr) (cl : List (Str × Addr)) (fp : List Addr), SG (X.blk s H scope (compEnvC scope cl C X.env) fp) tg js g)
    (ht : ∀ (s : Shared) (H : Hp) (C : Addr) (cl : List (Str × Addr)) (fp : List Addr), SPt (X.blk s H scope (compEnvC scope cl C X.env) fp) W0 ifs mt)
    (hk : ∀ (s : Shared) (H : Hp) (C : Addr) (cl : List (Str × Addr)) (fp : List Addr), SE (X.blk s H scope (compEnvC scope cl C X.env) fp) W0 kx mk)
    (hv : ∀ (s : Shared) (H : Hp) (C : Addr) (cl : List (Str × Addr)) (fp : List Addr), SE (X.blk s H scope (compEnvC scope cl C X.env) fp) W0 vx mv)
    (hsw : swapsWith (.DictComp kx vx [⟨tg, iter, ifs, 0⟩] scope pos) (some (.Name y py)) spos.line X.env = pure true) (hy : X.N[i]? = some y := by rfl) (hyl : X.env.scope.names.lookup y = some .local := by rfl) (hs : ∀ x, foldedSetIterable iter X.env x = pure x := by intro _; rfl) :
    SS X W (.Assign [.Name y py] (.DictComp kx vx [⟨tg, iter, ifs, 0⟩] scope pos) spos) (cAsg (mDc mi g mt mk mv (own.map (·.2))) (gNam i)) := by
  refine ps_imp (ps_setDc (gt := gW X.K js g) (tt := tm X.K DnB W0 mt) (tk := tm X.K (DnD X.K) W0 mk) (tv := tm X.K (DnD X.K) W0 mv) hc hN hy hyl hsw hi ok (fun s H C cl fp => gW_of (hg s H C cl fp)) (fun s H C cl fp => ht s H C cl fp) (fun s H C cl fp => hk s H C cl fp) (fun s H C cl fp => hv s H C cl fp) hs) fun D σ H q => ?_
  obtain ⟨ρ, M, env, Rl, E, q⟩ := q
  refine dc_imp (W := W) hj (andS_tm Rl E q fun d M1 ρ1 H1 v R1 E1 dv q1 => ?_)
  exact q1 ρ1 H1 _ (Stp.refl (K := X.K) (M := M1)) R1 (E1.set i dv)
end
section
variable {X : Cx} {W : WX} {kx vx tg : Expr} {ifs : List Expr} {scope : Scope} {own : List (Str × Nat)} {pos p0 : Pos} {js : List Nat} {g : D → En → Option En} {mt : MT} {mk mv : ME} {i0 : Nat} {x0 : Str}
/-- what the reading of the keys' walk is -/
theorem keys_reading {σ : L2.St} {H : Hp} {Q : VK} (hj : ∀ j ∈ js, j ∈ own.map (·.2)) (h : tm X.K (DnD X.K) W (mDc (mKeys i0) g mt mk mv (own.map (·.2))) σ H Q) :
    tDc (iKeys (tVar i0)) (gW X.K js g) (tm X.K DnB W0 mt) (tm X.K (DnD X.K) W0 mk) (tm X.K (DnD X.K) W0 mv) (own.map (·.2)) σ H Q := by
  obtain ⟨ρ, M, env, Rl, E, h⟩ := h
  unfold mDc mKeys at h
  split at h
  · rename_i ks ds e
    simp only [R.bind_ok] at h
    obtain ⟨v, h1, h2⟩ := E.get i0 _ e
    obtain ⟨d, kvs, rfl, ⟨o, hd⟩, n, rfl, _⟩ := den_dct.mp h2
    exact ⟨.ref d, h1, d, o, rfl, .inl ⟨kvs, hd, fun Dl hD => dc_go hj Rl E (wk_keys (M := M) hd) h hD⟩⟩
  · exact h.elim
theorem c_setDcK {i : Nat} {y : Str} {py spos : Pos} (hc : X.calm = true) (hN : X.N.Nodup) (ok : BlkOk X.N X.env.scope scope own) (hj : ∀ j ∈ js, j ∈ own.map (·.2))
    (hg : ∀ (s : Shared) (H : Hp) (C : Addr) (cl : List (Str × Addr)) (fp : List Addr), SG (X.blk s H scope (compEnvC scope cl C X.env) fp) tg js g)
    (ht : ∀ (s : Shared) (H : Hp) (C : Addr) (cl : List (Str × Addr)) (fp : List Addr), SPt (X.blk s H scope (compEnvC scope cl C X.env) fp) W0 ifs mt)
    (hk : ∀ (s : Shared) (H : Hp) (C : Addr) (cl : List (Str × Addr)) (fp : List Addr), SE (X.blk s H scope (compEnvC scope cl C X.env) fp) W0 kx mk)
    (hv : ∀ (s : Shared) (H : Hp) (C : Addr) (cl : List (Str × Addr)) (fp : List Addr), SE (X.blk s H scope (compEnvC scope cl C X.env) fp) W0 vx mv)
    (hsw : swapsWith (.DictComp kx vx [⟨tg, .Name x0 p0, ifs, 0⟩] scope pos) (some (.Name y py)) spos.line X.env = pure true) (hy : X.N[i]? = some y := by rfl) (hyl : X.env.scope.names.lookup y = some .local := by rfl)
    (hN0 : X.N[i0]? = some x0 := by rfl) (hv0 : Vis X.env.scope x0 := by first | exact Or.inl rfl | exact Or.inr (Or.inl rfl) | exact Or.inr (Or.inr rfl)) (hd0 : (x0 == ("__debug__" : Str)) = false := by decide) (hcd0 : (x0 == ("__classdict__" : Str)) = false := by decide)
    (hs : ∀ x, foldedSetIterable (.Name x0 p0) X.env x = pure x := by intro _; rfl) :
    SS X W (.Assign [.Name y py] (.DictComp kx vx [⟨tg, .Name x0 p0, ifs, 0⟩] scope pos) spos) (cAsg (mDc (mKeys i0) g mt mk mv (own.map (·.2))) (gNam i)) := by
  have base := ps_setDc (i := i) (gt := gW X.K js g) (tt := tm X.K DnB W0 mt) (tk := tm X.K (DnD X.K) W0 mk) (tv := tm X.K (DnD X.K) W0 mv) hc hN hy hyl hsw (pi_keys (pe_var hN0 hv0 hd0 hcd0)) ok (fun s H C cl fp => gW_of (hg s H C cl fp)) (fun s H C cl fp => ht s H C cl fp) (fun s H C cl fp => hk s H C cl fp) (fun s H C cl fp => hv s H C cl fp) hs
  refine ⟨fun pins s σ H En I q => ?_⟩
  obtain ⟨ρ, M, env, Rl, E, q⟩ := q
  have q2 : tm X.K (DnD X.K) W (mDc (mKeys i0) g mt mk mv (own.map (·.2))) σ H (fun v H1 => gName i v σ H1 En.nx) :=
    andS_tm Rl E q fun d M1 ρ1 H1 v R1 E1 dv q1 => q1 ρ1 H1 _ (Stp.refl (K := X.K) (M := M1)) R1 (E1.set i dv)
  exact base.run pins s σ H En I (keys_reading hj q2)
end
end Mi

end

section
/-! Mi, part 29: a def that is told no cell and tells none goes on by itself: it may be reckoned with no cells at all. -/
namespace Mi
open PySem PySem.Spec PyProof.Rows L2
mutual
/-- no cell in it; with b false no dict either -/
def cln (b : Bool) : D → Bool
  | .non => true
  | .bl _ => true
  | .int _ => true
  | .str _ => true
  | .ty _ => true
  | .adr _ => true
  | .ref _ => false
  | .tup ds => clns b ds
  | .lst ds => clns b ds
  | .dct _ ds => b && clns b ds
  | .fn _ => true
  | .exo _ _ _ _ => false
def clns (b : Bool) : List D → Bool
  | [] => true
  | d :: ds => cln b d && clns b ds
end
section
variable {K : PySem.W.Frag} {ρ ρ' : Rho} {H : Hp} {b : Bool}
mutual
theorem Den.to (f : ∀ (a : Addr) (xs : List V), LsV K ρ H a xs → LsV K ρ' H a xs) (g : b = true → ρ'.c = []) : ∀ (d : D) (v : V), cln b d = true → Den K ρ H d v → Den K ρ' H d v
  | .non, v, c, h => by unfold Den at h ⊢; exact h
  | .bl b, v, c, h => by unfold Den at h ⊢; exact h
  | .int i, v, c, h => by unfold Den at h ⊢; exact h
  | .str x, v, c, h => by unfold Den at h ⊢; exact h
  | .ty n, v, c, h => by unfold Den at h ⊢; exact h
  | .adr a, v, c, h => by unfold Den at h ⊢; exact h
  | .ref l, v, c, h => by unfold cln at c; cases c
  | .tup ds, v, c, h => by
    unfold Den at h ⊢
    unfold cln at c
    obtain ⟨a, xs, e, h1, h2⟩ := h
    exact ⟨a, xs, e, h1, Dens.to f g ds xs c h2⟩
  | .lst ds, v, c, h => by
    unfold Den at h ⊢
    unfold cln at c
    obtain ⟨a, xs, e, h1, h2⟩ := h
    exact ⟨a, xs, e, f a xs h1, Dens.to f g ds xs c h2⟩
  | .dct ks ds, v, c, h => by
    unfold Den at h ⊢
    unfold cln at c
    rw [Bool.and_eq_true] at c
    obtain ⟨a, kvs, e, h1, n, h2, h3⟩ := h
    exact ⟨a, kvs, e, h1, by rw [g c.1]; simp, h2, Dens.to f g ds _ c.2 h3⟩
  | .fn n, v, c, h => by unfold Den at h ⊢; exact h
  | .exo _ _ _ _, v, c, h => by unfold cln at c; cases c
theorem Dens.to (f : ∀ (a : Addr) (xs : List V), LsV K ρ H a xs → LsV K ρ' H a xs) (g : b = true → ρ'.c = []) : ∀ (ds : List D) (vs : List V), clns b ds = true → Dens K ρ H ds vs → Dens K ρ' H ds vs
  | [], vs, c, h => by unfold Dens at h ⊢; exact h
  | d :: ds, vs, c, h => by
    unfold Dens at h ⊢
    unfold clns at c
    rw [Bool.and_eq_true] at c
    obtain ⟨v, r, e, h1, h2⟩ := h
    exact ⟨v, r, e, Den.to f g d v c.1 h1, Dens.to f g ds r c.2 h2⟩
end
end
def clnX : Option (List (Str × D)) → Bool
  | none => true
  | some fs => clns false (fs.map (·.2))
/-- the def reckoned with no cells -/
def frM (m : MF) : MF := fun ds M => if clns true ds = true then match m ds [] with
    | .ok d _ => if cln false d = true then .ok d M else .err
    | .exc c fs _ => if clnX fs = true then .exc c fs M else .err
    | .err => .err
  else .err
open Classical in
noncomputable def lists (ρ : Rho) (H : Hp) : List Addr := ρ.c.filterMap fun o => match o with
  | some a => if ∃ xs, H a = some (.lst xs) then some a else none
  | none => none
theorem lists_mem {ρ : Rho} {H : Hp} {a : Addr} : a ∈ lists ρ H ↔ some a ∈ ρ.c ∧ ∃ xs, H a = some (.lst xs) := by
  unfold lists
  rw [List.mem_filterMap]
  constructor
  · rintro ⟨o, ho, h⟩
    cases o with
    | none => cases h
    | some c =>
      simp only at h
      split at h
      · rename_i q
        cases h
        exact ⟨ho, q⟩
      · cases h
  · rintro ⟨h1, h2⟩
    exact ⟨some a, h1, by simp only; rw [if_pos h2]⟩
/-- no cells: the lists that were cells are out of sight -/
noncomputable def Rho.bare (ρ : Rho) (H : Hp) : Rho := ⟨[], ρ.h ++ lists ρ H⟩
section
variable {K : PySem.W.Frag} {ρ ρ1 : Rho} {M M1 : MH} {H H1 : Hp}
theorem Rel.bare (R : Rel K ρ M H) : Rel K (ρ.bare H) [] H where
  len := rfl
  hid := fun a m => by
    refine ⟨by show some a ∉ ([] : List (Option Addr)); simp, ?_⟩
    rcases List.mem_append.mp (show a ∈ ρ.h ++ lists ρ H from m) with m | m
    · exact (R.hid a m).2
    · exact (lists_mem.mp m).2
  inj := fun i j a h _ => by
    have h : ([] : List (Option Addr))[i]? = some (some a) := h
    simp at h
  obj := fun l o h => by simp at h
theorem stp_bare (S : Stp (ρ.bare H) H ρ1 H1) : Stp ρ H ρ H1 := ⟨fun _ _ h => .inl h, fun _ h => .inl h, fun a o h _ => S.keep a o h (by show some a ∉ ([] : List (Option Addr)); simp), rfl⟩
theorem all_kept (S : Stp (ρ.bare H) H ρ1 H1) {a : Addr} {o : HO} (h : H a = some o) : H1 a = some o := S.keep a o h (by show some a ∉ ([] : List (Option Addr)); simp)
theorem Rel.out (R : Rel K ρ M H) (S : Stp (ρ.bare H) H ρ1 H1) : Rel K ρ M H1 where
  len := R.len
  hid := fun a m => let ⟨n, xs, e⟩ := R.hid a m; ⟨n, xs, all_kept S e⟩
  inj := R.inj
  obj := fun l o q => by
    have x := R.obj l o q
    cases o with
    | lst ds =>
      obtain ⟨a, xs, h1, h2, h3⟩ := x
      exact ⟨a, xs, h1, all_kept S h2, Dens.step R (stp_bare S) _ _ h3⟩
    | dct kvs =>
      obtain ⟨a, xs, h1, h2, h3⟩ := x
      exact ⟨a, xs, h1, all_kept S h2, DenP.step R (stp_bare S) h3⟩
    | ins C fs =>
      obtain ⟨a, Ca, dx, gs, h1, cn, h2, h3⟩ := x
      exact ⟨a, Ca, dx, gs, h1, cn, all_kept S h2, DenP.step R (stp_bare S) h3⟩
    | gone => exact x
theorem ls_in {a : Addr} {xs : List V} (h : LsV K ρ H a xs) : LsV K (ρ.bare H) H a xs := by
  rcases h with ⟨h, n, m⟩ | h
  · refine .inl ⟨h, by show some a ∉ ([] : List (Option Addr)); simp, fun z => ?_⟩
    rcases List.mem_append.mp (show a ∈ ρ.h ++ lists ρ H from z) with z | z
    · exact m z
    · exact n (lists_mem.mp z).1
  · exact .inr h
theorem ls_out (R : Rel K ρ M H) (S : Stp (ρ.bare H) H ρ1 H1) {a : Addr} {xs : List V} (h : LsV K ρ1 H1 a xs) : LsV K ρ H1 a xs := by
  rcases h with ⟨h, n, m⟩ | h
  · have m : a ∉ ρ.h ++ lists ρ H := by
      have e : ρ1.h = ρ.h ++ lists ρ H := S.hid
      rw [← e]
      exact m
    rw [List.mem_append, not_or] at m
    refine .inl ⟨h, fun z => ?_, m.1⟩
    rcases R.kind z with ⟨ys, e⟩ | ⟨ks, e⟩ | ⟨C, dx, gs, e⟩
    · exact m.2 (lists_mem.mpr ⟨z, ys, e⟩)
    · have e1 := all_kept S e
      rcases h with h | ⟨o, h⟩ <;> (rw [e1] at h; cases h)
    · have e1 := all_kept S e
      rcases h with h | ⟨o, h⟩ <;> (rw [e1] at h; cases h)
  · exact .inr h
theorem denP_to {κ : Type} {ρ' : Rho} {ps : List (κ × D)} {qs : List (κ × V)} (f : ∀ (a : Addr) (xs : List V), LsV K ρ H a xs → LsV K ρ' H a xs) (c : clns false (ps.map (·.2)) = true) (h : DenP K ρ H ps qs) : DenP K ρ' H ps qs := by
  induction h with
  | nil => exact .nil
  | cons r _ ih =>
    rw [List.map_cons] at c
    unfold clns at c
    rw [Bool.and_eq_true] at c
    exact .cons ⟨r.1, Den.to (b := false) f (fun z => nomatch z) _ _ c.1 r.2⟩ (ih c.2)
end
theorem sp_fr {K : PySem.W.Frag} {n : Nat} {m : MF} {vs : List V} {H : Hp} {Q : VK} {E : XK} (h : spM K n (frM m) vs H Q E) : spM K n m vs H Q E := by
  obtain ⟨hl, ρ, M, ds, R, dd, ok⟩ := h
  refine ⟨hl, ρ.bare H, [], ds, R.bare, ?_⟩
  unfold frM at ok
  split at ok
  rotate_left
  · exact ok.elim
  rename_i c
  refine ⟨Dens.to (fun _ _ => ls_in) (fun _ => rfl) _ _ c dd, ?_⟩
  cases e : m ds [] with
  | err => rw [e] at ok; exact ok
  | ok d M1 =>
    rw [e] at ok
    simp only at ok
    split at ok
    · rename_i cd
      exact fun ρ1 H1 v S R1 dv => ok ρ H1 v (stp_bare S) (R.out S) (Den.to (b := false) (fun _ _ => ls_out R S) (fun z => nomatch z) _ _ cd dv)
    · exact ok.elim
  | exc cc fs M1 =>
    rw [e] at ok
    simp only at ok
    split at ok
    · rename_i cf
      intro ρ1 H1 d cv cn S R1 x
      refine ok ρ H1 d cv cn (stp_bare S) (R.out S) ?_
      cases fs with
      | none => exact x
      | some fs =>
        obtain ⟨a, gs, h1, h2, h3⟩ := x
        exact ⟨a, gs, h1, h2, denP_to (fun _ _ => ls_out R S) cf h3⟩
    · exact ok.elim
theorem fm_fr {P : Program} {w : World} {K : PySem.W.Frag} {mg : Str → Option Value} {base : Heap} {k : Nat} {x : Str} {st : Stmt} {dvs : List V} {kws : List (Str × V)} {ps : List Str} {m : MF} (F : Fm P w K mg base k x st dvs kws ps m) : Fm P w K mg base k x st dvs kws ps (frM m) :=
  let ⟨f, fd, a, b, c⟩ := F.ex
  ⟨f, fd, a, b, ⟨fun vs H Q E h => h.1, fun A outer s H args us vs Q E r g e bt r2 h => c.go A outer s H args us vs Q E r g e bt r2 (sp_fr h)⟩⟩
end Mi

end

section
/-! Mi, part 30: things of the text's own classes: made, their fields read and stored, their methods. -/
namespace Mi
open PySem PySem.Spec PyProof.Rows L2
/-- the own classes, their fields -/
def COk (K : PySem.W.Frag) (T : ATab) : Prop := ∀ p ∈ T, ∃ C, PySem.W.nsIn K mainGlobals p.1 = some (some (.ref C)) ∧ Cls K C ∧ ∀ f ∈ p.2, NoAttr K C f
theorem hasA_in {K : PySem.W.Frag} {T : ATab} (ok : COk K T) {c f : Str} {Ca : Addr} (cn : CN K c (.ref Ca)) (h : hasA T c f = true) : Cls K Ca ∧ NoAttr K Ca f := by
  unfold hasA at h
  obtain ⟨p, h1, h2⟩ := List.any_eq_true.mp h
  rw [Bool.and_eq_true, decide_eq_true_eq] at h2
  obtain ⟨e, h3⟩ := h2
  obtain ⟨g, h4, h5⟩ := List.any_eq_true.mp h3
  rw [decide_eq_true_eq] at h5
  subst h5
  obtain ⟨C, n, x, q⟩ := ok p h1
  subst e
  have z := cn_ref n cn
  cases z
  exact ⟨x, q g h4⟩
theorem denP_look {K : PySem.W.Frag} {ρ : Rho} {H : Hp} {f : Str} {fs : List (Str × D)} {gs : List (Str × V)} (h : DenP K ρ H fs gs) : (∀ d, fs.lookup f = some d → ∃ v, gs.lookup f = some v ∧ Den K ρ H d v) ∧ (fs.lookup f = none → gs.lookup f = none) := by
  induction h with
  | nil => exact ⟨fun d e => by simp at e, fun _ => rfl⟩
  | @cons p q ps qs r _ ih =>
    obtain ⟨k, d0⟩ := p
    obtain ⟨k', v0⟩ := q
    obtain ⟨e, dv⟩ := r
    simp only at e dv
    subst e
    simp only [List.lookup_cons]
    cases z : f == k with
    | true => exact ⟨fun d e => ⟨v0, rfl, by cases e; exact dv⟩, fun e => by cases e⟩
    | false => exact ih
def putFD (f : Str) (v : D) : List (Str × D) → List (Str × D)
  | [] => [(f, v)]
  | (g, x) :: r => if g = f then (g, v) :: r else (g, x) :: putFD f v r
theorem denP_putF {K : PySem.W.Frag} {ρ : Rho} {H : Hp} {f : Str} {d : D} {v : V} (dv : Den K ρ H d v) {fs : List (Str × D)} {gs : List (Str × V)} (h : DenP K ρ H fs gs) : DenP K ρ H (putFD f d fs) (putF f v gs) := by
  induction h with
  | nil => exact .cons ⟨rfl, dv⟩ .nil
  | @cons p q ps qs r rs ih =>
    obtain ⟨k, d0⟩ := p
    obtain ⟨k', v0⟩ := q
    obtain ⟨e, dv0⟩ := r
    simp only at e dv0
    subst e
    show DenP K ρ H (if k = f then (k, d) :: ps else (k, d0) :: putFD f d ps) (if k = f then (k, v) :: qs else (k, v0) :: putF f v qs)
    by_cases z : k = f
    · rw [if_pos z, if_pos z]
      exact .cons ⟨rfl, dv⟩ rs
    · rw [if_neg z, if_neg z]
      exact .cons ⟨rfl, dv0⟩ ih
/-! ### x.f -/
def fldD (T : ATab) (f : Str) : Op1 := fun d M => match d with
  | .ref l => match M[l]? with
    | some (.ins c fs) => if hasA T c f = true then match fs.lookup f with
        | some d => .ok d M
        | none => .err
      else .err
    | _ => .err
  | _ => .err
section
variable {X : Cx} {W : WX} {T : ATab}
theorem s_fld (ok : COk X.K T) {e : Expr} {pos : Pos} {n : Str} {m : ME} (he : SE X W e m) (hb : attributeBase e n X.env (eval e X.env) = eval e X.env := by rfl) : SE X W (.Attribute e n pos) (m1 (fldD T n) m) := by
  refine pe_imp (pe_fld he hb) fun σ H Q h => ?_
  refine tm_bind (f := fun d env M1 => fldD T n d M1) h fun d M1 ρ1 H1 v env R1 E1 dv h => ?_
  unfold fldD at h
  split at h
  · rename_i l
    split at h
    · rename_i c fs hm
      split at h
      · rename_i hA
        split at h
        · rename_i d e
          obtain ⟨p, u, rfl, hl, ho⟩ := den_ref.mp dv
          obtain ⟨a, Ca, dx, gs, h1, cn, h2, h3⟩ := R1.obj l _ hm
          rw [hl] at h1
          cases h1
          have ep := ho a rfl
          subst ep
          obtain ⟨c1, n1⟩ := hasA_in ok cn hA
          obtain ⟨v, l1, dv⟩ := (denP_look h3).1 d e
          exact ⟨a, Ca, dx, gs, v, rfl, h2, c1, n1, l1, here R1 h dv⟩
        · exact h.elim
      · exact h.elim
    · exact h.elim
  · exact h.elim
/-! ### x.f = e -/
def setFD (T : ATab) (f : Str) (o d : D) (M : MH) : Option MH := match o with
  | .ref l => match M[l]? with
    | some (.ins c fs) => if hasA T c f = true ∧ fs.length < 1000 then some (M.set l (.ins c (putFD f d fs))) else none
    | _ => none
  | _ => none
def cFld (T : ATab) (f : Str) (mv mo : ME) : MS := fun env M => andS (mv env M) env fun d M1 => andS (mo env M1) env fun o M2 => match setFD T f o d M2 with
  | some M3 => .nx env M3
  | none => .err
theorem o_setF {K : PySem.W.Frag} {ρ : Rho} {M M' : MH} {H : Hp} {f : Str} {o d : D} {vo vd : V} (ok : COk K T) (Rl : Rel K ρ M H) (d1 : Den K ρ H o vo) (d2 : Den K ρ H d vd) (e : setFD T f o d M = some M') :
    ∃ a C dx fs, vo = .ref a ∧ H a = some (.ins C dx fs) ∧ Cls K C ∧ NoAttr K C f ∧ fs.length < 1000 ∧ ∃ ρ', Stp ρ H ρ' (upd H a (.ins C dx (putF f vd fs))) ∧ Rel K ρ' M' (upd H a (.ins C dx (putF f vd fs))) := by
  unfold setFD at e
  split at e
  · rename_i l
    split at e
    · rename_i c fs hm
      split at e
      · rename_i hA
        cases e
        obtain ⟨p, u, rfl, hl, ho⟩ := den_ref.mp d1
        obtain ⟨a, Ca, dx, gs, h1, cn, h2, h3⟩ := Rl.obj l _ hm
        have hl2 := h1
        rw [hl] at h1
        cases h1
        have ep := ho a rfl
        subst ep
        obtain ⟨c1, n1⟩ := hasA_in ok cn hA.1
        have S : Stp ρ H ρ (upd H a (.ins Ca dx (putF f vd gs))) := Stp.write hl2
        exact ⟨a, Ca, dx, gs, rfl, h2, c1, n1, by rw [← Paired.length h3]; exact hA.2, ρ, S, Rl.write hl2 ⟨a, Ca, dx, putF f vd gs, hl2, cn, upd_same, DenP.step Rl S (denP_putF d2 h3)⟩⟩
      · cases e
    · cases e
  · cases e
theorem c_fld (ok : COk X.K T) {o e : Expr} {f : Str} {p' pos : Pos} {mo mv : ME} (hv : SE X W e mv) (ho : SE X W o mo) (hs : swapsWith e (some (.Attribute o f p')) pos.line X.env = pure false := by rfl) : SS X W (.Assign [.Attribute o f p'] e pos) (cFld T f mv mo) := by
  refine ps_imp (ps_fld ho hv hs) fun D σ H q => ?_
  obtain ⟨ρ, M, env, Rl, E, q⟩ := q
  refine andS_stp Rl E q fun d M1 ρ1 H1 v S1 R1 E1 dv q1 => ?_
  refine andS_stp R1 E1 q1 fun o M2 ρ2 H2 w S2 R2 E2 dw q2 => ?_
  split at q2
  · rename_i M3 e
    obtain ⟨a, C, dx, fs, rfl, h2, c1, n1, hl, ρ', S, R'⟩ := o_setF ok R2 dw (Den.step R1 S2 _ _ dv) e
    exact ⟨a, C, dx, fs, rfl, h2, c1, n1, hl, q2 ρ' _ σ S R' (E2.step R2 S)⟩
  · exact q2.elim
/-! ### x.f += e, whole numbers -/
def clsAt (o : D) (M : MH) : Option Str := match o with
  | .ref l => match M[l]? with
    | some (.ins c _) => some c
    | _ => none
  | _ => none
def cFldAdd (T : ATab) (f : Str) (mo mv : ME) : MS := fun env M => andS (mo env M) env fun o M1 => andS (fldD T f o M1) env fun x M2 => andS (mv env M2) env fun y M3 => match x, y with
  | .int i, .int j => if clsAt o M2 = clsAt o M3 then match setFD T f o (.int (i + j)) M3 with
      | some M4 => .nx env M4
      | none => .err
    else .err
  | _, _ => .err
theorem fld_at {K : PySem.W.Frag} {ρ : Rho} {M M2 : MH} {H : Hp} {f : Str} {o x : D} {vo : V} (ok : COk K T) (Rl : Rel K ρ M H) (d1 : Den K ρ H o vo) (e : fldD T f o M = .ok x M2) : M2 = M ∧ ∃ l c fs a C dx gs v, o = .ref l ∧ M[l]? = some (.ins c fs) ∧ vo = .ref a ∧ CN K c (.ref C) ∧ H a = some (.ins C dx gs) ∧ Cls K C ∧ NoAttr K C f ∧ gs.lookup f = some v ∧ Den K ρ H x v := by
  unfold fldD at e
  split at e
  · rename_i l
    split at e
    · rename_i c fs hm
      split at e
      · rename_i hA
        split at e
        · rename_i d e1
          cases e
          obtain ⟨p, u, rfl, hl, ho⟩ := den_ref.mp d1
          obtain ⟨a, Ca, dx, gs, h1, cn, h2, h3⟩ := Rl.obj l _ hm
          rw [hl] at h1
          cases h1
          have ep := ho a rfl
          subst ep
          obtain ⟨c1, n1⟩ := hasA_in ok cn hA
          obtain ⟨v, l1, dv⟩ := (denP_look h3).1 x e1
          exact ⟨rfl, l, c, fs, a, Ca, dx, gs, v, rfl, hm, rfl, cn, h2, c1, n1, l1, dv⟩
        · cases e
      · cases e
    · cases e
  · cases e
theorem fld_ne {M M2 : MH} {f c : Str} {o : D} {fs : Option (List (Str × D))} : fldD T f o M ≠ .exc c fs M2 := by
  intro e
  unfold fldD at e
  (repeat' split at e) <;> cases e
theorem c_fldAdd (ok : COk X.K T) {o e : Expr} {f : Str} {tpos pos : Pos} {mo mv : ME} (ho : SE X W o mo) (hv : SE X W e mv) : SS X W (.AugAssign (.Attribute o f tpos) .Add e pos) (cFldAdd T f mo mv) := by
  refine ps_imp (ps_fldaug ho hv in_add) fun D σ H q => ?_
  obtain ⟨ρ, M, env, Rl, E, q⟩ := q
  refine andS_stp Rl E q fun o M1 ρ1 H1 w S1 R1 E1 dw q1 => ?_
  cases ef : fldD T f o M1 with
  | err => rw [ef] at q1; exact q1.elim
  | exc c fs M2 => exact absurd ef fld_ne
  | ok x M2 =>
    rw [ef] at q1
    obtain ⟨rfl, l, c, fs, a, C, dx, gs, v, rfl, hm, rfl, cn, h2, c1, n1, l1, dv⟩ := fld_at ok R1 dw ef
    refine ⟨a, C, dx, gs, v, rfl, h2, c1, n1, l1, ?_⟩
    refine andS_stp R1 E1 q1 fun y M3 ρ2 H2 u S2 R2 E2 du q2 => ?_
    split at q2
    rotate_left
    · exact q2.elim
    · rename_i i j
      split at q2
      rotate_left
      · exact q2.elim
      rename_i hc
      split at q2
      rotate_left
      · exact q2.elim
      · rename_i M4 e
        obtain ⟨a', C', dx', fs', e1, h3, c2, n2, hl, ρ', S, R'⟩ := o_setF ok R2 (Den.step R1 S2 _ _ dw) (den_int.mpr rfl) e
        cases e1
        have hC : C' = C := by
          unfold setFD at e
          simp only at e
          split at e
          · rename_i c2 fs2 hm2
            have hc2 : c2 = c := by
              unfold clsAt at hc
              simp only [hm, hm2] at hc
              exact (Option.some.inj hc).symm
            subst hc2
            obtain ⟨a2, Ca2, dx2, gs2, k1, cn2, k2, _⟩ := R2.obj l _ hm2
            obtain ⟨p, u2, e5, hl5, ho5⟩ := den_ref.mp (Den.step R1 S2 _ _ dw)
            cases e5
            rw [hl5] at k1
            cases k1
            have := ho5 a2 rfl
            subst this
            rw [h3] at k2
            cases k2
            exact V.ref.inj (by have := CN.uniq cn cn2; cases this; rfl)
          · cases e
        subst hC
        have dv := den_int.mp dv
        have du := den_int.mp du
        subst dv du
        exact ⟨i, j, rfl, rfl, dx', fs', h3, hl, q2 ρ' _ σ S R' (E2.step R2 S)⟩
end
end Mi

end

section
/-! Mi, part 31: methods of the text's own classes called, things of them made. -/
namespace Mi
open PySem PySem.Spec PyProof.Rows L2
structure OwnC (K : PySem.W.Frag) (mg : Str → Option Value) (cls : Str) (C : Addr) : Prop where
  nm : PySem.W.nsIn K mainGlobals cls = some (some (.ref C))
  gl : mg cls = some (.ref C)
  cl : Cls K C
/-- where a method of the text stands -/
def AtM (K : PySem.W.Frag) (mg : Str → Option Value) (cls m qual : Str) (st : Stmt) : Prop := ∃ C f fd, OwnC K mg cls C ∧ PySem.W.findIn K (.ref C) m = some (some (.ref f)) ∧ PySem.W.isFn K (.ref f) = true ∧ FunD K m qual (defArgs st) (defBody st) (defScope st) [] [] f fd
structure Fmt (P : Program) (w : World) (K : PySem.W.Frag) (mg : Str → Option Value) (base : Heap) (k : Nat) (cls m qual : Str) (st : Stmt) (ps : List Str) (mf : MF) : Prop where
  ex : ∃ C f fd, OwnC K mg cls C ∧ PySem.W.findIn K (.ref C) m = some (some (.ref f)) ∧ PySem.W.isFn K (.ref f) = true ∧ FunD K m qual (defArgs st) (defBody st) (defScope st) [] [] f fd ∧ FnG P w K mg base k f fd ps (spM K ps.length mf)
theorem Fmt.mono {P : Program} {w : World} {K : PySem.W.Frag} {mg : Str → Option Value} {base : Heap} {j k : Nat} {cls m qual : Str} {st : Stmt} {ps : List Str} {mf : MF} (F : Fmt P w K mg base j cls m qual st ps mf) (h : j ≤ k) : Fmt P w K mg base k cls m qual st ps mf :=
  let ⟨C, f, fd, a, b, c, d, e⟩ := F.ex; ⟨C, f, fd, a, b, c, d, e.mono h⟩
theorem mt_seal {P : Program} {w : World} {K : PySem.W.Frag} {mg : Str → Option Value} {base : Heap} {k : Nat} {cls m qual : Str} {st : Stmt} {ps : List Str} {mf mf' : MF} (e : mf = mf') (F : Fmt P w K mg base k cls m qual st ps mf') : Fmt P w K mg base k cls m qual st ps mf := by
  rw [e]
  exact F
theorem mt_mk {P : Program} {w : World} {K : PySem.W.Frag} {mg : Str → Option Value} {base : Heap} {k : Nat} {cls m x : Str} {st : Stmt} {ps : List Str} {b : MS} {n : Nat} (N : List Str) (a : AtM K mg cls m x st) (S : FnScope N ps (defScope st)) (hn : N.length = n)
    (body : ∀ (f : Addr) (cdv : Value) (A : Around) (outer : List Env) (s : Shared) (H : Hp) (E : XK), Cg (cxOf (L2.CX P w) P w K mg base N x (defScope st) f cdv A outer s H E) (WE E) k →
      PassesOwn (model P w) (cxOf (L2.CX P w) P w K mg base N x (defScope st) f cdv A outer s H E).A (cxOf (L2.CX P w) P w K mg base N x (defScope st) f cdv A outer s H E).env (cxOf (L2.CX P w) P w K mg base N x (defScope st) f cdv A outer s H E).xe →
      SB (cxOf (L2.CX P w) P w K mg base N x (defScope st) f cdv A outer s H E) (WE E) (defBody st) b) : Fmt P w K mg base (k + 1) cls m x st ps (mFn n b) := by
  obtain ⟨C, f, fd, h1, h2, h3, F⟩ := a
  refine ⟨C, f, fd, h1, h2, h3, F, fng_of F S (fun vs H Q E h => h.1) fun cdv A outer s H vs Q E rm gd h => ?_⟩
  obtain ⟨hl, ρ, M, ds, Rl, dd, ok⟩ := h
  have hb := body f cdv A outer s H E ⟨rm, gd, takes_of rfl rfl rfl rfl⟩ (passes_of rfl)
  refine ⟨_, hb, ρ, M, ds.map some ++ List.replicate (n - ds.length) none, Rl, by rw [← hn]; exact en_start dd, ?_⟩
  unfold mFn at ok
  cases e : b (ds.map some ++ List.replicate (n - ds.length) none) M with
  | nx env M1 =>
    rw [e] at ok
    exact fun ρ1 H1 σ1 S1 R1 E1 => ok ρ1 H1 .non S1 R1 (den_non.mpr rfl)
  | ret d M1 => rw [e] at ok; exact ok
  | bk env M1 => rw [e] at ok; exact ok.elim
  | ct env M1 => rw [e] at ok; exact ok.elim
  | exc c fs env M1 =>
    rw [e] at ok
    exact fun ρ1 H1 d σ1 cv cn S1 R1 x1 _ => ok ρ1 H1 d cv cn S1 R1 x1
  | err => rw [e] at ok; exact ok.elim
/-- every parameter is given -/
theorem binds_d {K : PySem.W.Frag} {x qual : Str} {params : Arguments} {body : List Stmt} {scope : Scope} {kws : List (Str × V)} {f : Addr} {fd : FuncData} {ps : List Str} (F : FunD K x qual params body scope [] kws f fd)
    (h : ∀ (kV doc pm : Value) (an : Option Addr) (cdv ct : Value) (us : List Value), us.length = ps.length → bindArgs (PySem.W.fnOf x qual params body scope .none kV doc pm an cdv ct) ⟨us, []⟩ = pure (ps.zip us)) : Binds K fd ps [] := by
  obtain ⟨oc, od, dV, kV, doc, pm, an, cdv, ct, osl, rfl, lk, hcd, hD, hK⟩ := F.ex
  rcases hD with ⟨_, rfl⟩ | ⟨e, _⟩
  · exact .all fun us hl => h kV doc pm an cdv ct us hl
  · exact absurd rfl e
/-! ### x.m(..) -/
def instOf (cls mn : Str) (x : D) (M : MH) : Bool := match x with
  | .ref l => match M[l]? with
    | some (.ins c fs) => decide (c = cls) && (fs.lookup mn).isNone
    | _ => false
  | _ => false
theorem instOf_ok {K : PySem.W.Frag} {ρ : Rho} {M : MH} {H : Hp} {cls mn : Str} {x : D} {v : V} {C : Addr} (R : Rel K ρ M H) (n : PySem.W.nsIn K mainGlobals cls = some (some (.ref C))) (dx : Den K ρ H x v) (h : instOf cls mn x M = true) : ∃ a dx gs, v = .ref a ∧ H a = some (.ins C dx gs) ∧ gs.lookup mn = none := by
  unfold instOf at h
  split at h
  · rename_i l
    split at h
    · rename_i c fs hm
      rw [Bool.and_eq_true, decide_eq_true_eq] at h
      obtain ⟨rfl, h2⟩ := h
      obtain ⟨p, u, rfl, hl, ho⟩ := den_ref.mp dx
      obtain ⟨a, Ca, dxx, gs, k1, cn, k2, k3⟩ := R.obj l _ hm
      rw [hl] at k1
      cases k1
      have ep := ho a rfl
      subst ep
      have z := cn_ref n cn
      cases z
      exact ⟨a, dxx, gs, rfl, k2, (denP_look k3).2 (Option.isNone_iff_eq_none.mp h2)⟩
    · cases h
  · cases h
def mMeth (cls mn : Str) (mf : MF) (n : Nat) (mo : ME) (ma : MA) : ME := fun env M => (mo env M).bind fun x M1 => if instOf cls mn x M1 = true then (ma env M1).bind fun us M2 => if us.length = n then mf (x :: us) M2 else .err else .err
section
variable {X : Cx} {W : WX} {k j n : Nat} {cls mn qual : Str} {st : Stmt} {ps : List Str} {mf : MF} {o e : Expr} {es : List Expr} {mo : ME} {ma : MA} {apos pos p : Pos} {x : Str}
theorem s_meth {pl : Sem Bool} (F : Fmt X.prog X.w X.K X.mg X.base j cls mn qual st ps mf) (c : Cg X W k) (hj : j ≤ k) (hps : ps.length = n + 1) (bd : ∀ f fd, FunD X.K mn qual (defArgs st) (defBody st) (defScope st) [] [] f fd → Binds X.K fd ps [])
    (ho : SE X W o mo) (ha : SA X W (e :: es) ma)
    (hst : starEach (e :: es) X.env = (false, eval e X.env) :: starEach es X.env := by rfl) (hpl : (backTo pos (starEach es X.env)).any (·.1) = false := by rfl)
    (ht : eval (.Call (.Attribute o mn apos) (e :: es) [] pos) X.env = (do
      let ov ← eval o X.env
      standAt apos.atName
      let (f, first) ← holding [ov] (getMethod ov mn pl)
      callWith pos f first (backTo pos (starEach (e :: es) X.env)) (backToKw pos (keywordEach [] X.env))) := by rfl) :
    SE X W (.Call (.Attribute o mn apos) (e :: es) [] pos) (mMeth cls mn mf n mo ma) := by
  obtain ⟨C, f, fd, oc, fi, fn, FD, G⟩ := F.ex
  refine ⟨fun pins s σ H Q I h => ?_⟩
  refine PySem.W.methodCall_KW (pl := pl) (thn (ho.run pins s σ H (fun v H1 => ∃ a dx gs, v = .ref a ∧ H1 a = some (.ins C dx gs) ∧ gs.lookup mn = none ∧ tm X.K (DnA X.K) W ma σ H1 fun vs H2 => spM X.K ps.length mf (.ref a :: vs) H2 Q (fun c d H' => W c d σ H')) I ?_)
    fun u s1 ⟨v, H1, I1, rv, a, dx, gs, ev, ea, l, q⟩ => ?_) ht
  · refine tm_bind (f := fun x env M1 => if instOf cls mn x M1 = true then (ma env M1).bind fun us M2 => if us.length = n then mf (x :: us) M2 else .err else .err) h fun x M1 ρ1 H1 v env R1 E1 dv h => ?_
    split at h
    rotate_left
    · exact h.elim
    rename_i hi
    obtain ⟨a, dx, gs, rfl, ea, l⟩ := instOf_ok R1 oc.nm dv hi
    refine ⟨a, dx, gs, rfl, ea, l, ρ1, M1, env, R1, E1, h.bind fun us M2 ρ2 H2 vs _ S R2 dd h => ?_⟩
    split at h
    rotate_left
    · exact h.elim
    rename_i hl
    exact ⟨by rw [List.length_cons, ← Dens.length dd, hl, hps], ρ2, M2, x :: us, R2, dens_cons.mpr ⟨_, _, rfl, Den.step R1 S _ _ dv, dd⟩, h⟩
  · subst ev
    obtain rfl : u = Value.ref a := rv
    refine getmeth_ok I1 ea oc.cl ⟨fi, fn, FD.kp⟩ l ?_
    refine PySem.W.callWith_K (first := [.ref a]) (h₀ := X.base) I.ok.mod.kin FD.kp (thn (ha.run pos pins s1 σ H1 _ I1 q) fun us s2 ⟨vs, H2, I2, r, q2⟩ => ⟨I2.kIn, ?_⟩) hst hpl
    have hl : (Value.ref a :: us ++ []).length = ps.length := by
      have e1 := q2.1
      rw [List.append_nil, List.length_cons, ← Paired.length r]
      rw [List.length_cons] at e1
      exact e1
    have bt := bd f fd FD s2 (Value.ref a :: us) I2.kIn hl
    rw [List.append_nil] at bt
    exact run_g (vs := V.ref a :: vs) G (c.rm.mono hj) c.gd c.tk I2 bt (.cons (show RelV (V.ref a) (Value.ref a) from rfl) r) q2
/-! ### C(..) -/
def mMake (cls : Str) (mf : MF) (n : Nat) (ma : MA) : ME := fun env M => (ma env M).bind fun us M1 => if us.length = n then (mf (.ref M1.length :: us) (M1 ++ [.ins cls []])).bind fun d M2 => match d with
    | .non => .ok (.ref M1.length) M2
    | _ => .err
  else .err
theorem run_makeG {f C : Addr} {fd : FuncData} {sp : Sp} {pins : List (Addr × Obj)} {σ : L2.St} {H : Hp} {s : Shared} {Q : VK} {us : List Value} {vs : List V} (M : Mk X.K C f) (F : FnG X.prog X.w X.K X.mg X.base j f fd ps sp) (hr : Room (j + 1) X.A) (gd : X.A.guards = some []) (tk : Takes X W) (hb : Binds X.K fd ps [])
    (I : Inv X pins σ H s) (r : Vals vs us)
    (h : ∀ x dx, H x = none → H dx = none → dx ≠ x → sp (.ref x :: vs) (upd (upd H dx (.own x)) x (.ins C dx [])) (fun v H2 => v = .non ∧ Q (.ref x) H2) (fun c d H' => W c d σ H')) :
    wpAny (model X.prog X.w) X.A (call (.ref C) us) (EP X pins σ Q) X.xe s := by
  have hq := h (s.heap.objs.size + 1) s.heap.objs.size (I.hok.fresh (Nat.le_succ _)) (I.hok.fresh (Nat.le_refl _)) (Nat.ne_of_lt (Nat.lt_succ_self _))
  have I2 := Inv.made (C := C) I
  have r2 : Vals (V.ref (s.heap.objs.size + 1) :: vs) (Value.ref (s.heap.objs.size + 1) :: us) := .cons rfl r
  have hl : (Value.ref (s.heap.objs.size + 1) :: us ++ []).length = ps.length := by
    have e := r2.length
    rw [F.len _ _ _ _ hq] at e
    rw [List.append_nil]
    exact e.symm
  have bt := hb _ (Value.ref (s.heap.objs.size + 1) :: us) I2.kIn hl
  rw [List.append_nil] at bt
  have gu : (X.A.under (.builtin "type.__call__" ⟨.ref C :: us, []⟩)).guards = some [] := by
    simp only [Around.under, Code.guards, Code.isGuard, gd]
    first
      | (rw [if_neg (by decide)]; rfl)
      | rfl
  refine wpAny_call (make_map (f := f) I.kIn M.makes M.init (beq_iff_eq.mp M.fn) (codeAny_mono (F.go _ X.stack _ _ ⟨Value.ref (s.heap.objs.size + 1) :: us, []⟩ (Value.ref (s.heap.objs.size + 1) :: us) _ _ _ (hr.make C us []) gu
    (I2.env0.make C us []) bt r2 hq) fun r s' hq' => ?_))
  cases r with
  | error e => exact tk e s' (XE.of_call I2 (fun _ _ _ z => z) hq')
  | ok fl =>
    cases fl with
    | ret u =>
      obtain ⟨v, H', I3, rv, ev, q3⟩ := I2.after hq'
      subst ev
      exact ⟨rv, ⟨V.ref (s.heap.objs.size + 1), H', I3, rfl, q3⟩⟩
    | next => exact False.elim hq'
    | brk => exact False.elim hq'
    | cont => exact False.elim hq'
theorem s_make (F : Fmt X.prog X.w X.K X.mg X.base j cls "__init__" qual st ps mf) (mk : ∀ C, OwnC X.K X.mg cls C → PySem.W.makesIn X.K C = true ∧ PySem.W.keepIn X.K (.ref C) = true) (c : Cg X W k) (hj : j + 1 ≤ k) (hps : ps.length = n + 1) (bd : ∀ f fd, FunD X.K "__init__" qual (defArgs st) (defBody st) (defScope st) [] [] f fd → Binds X.K fd ps [])
    (ha : SA X W (e :: es) ma) (hg : Gl X cls := by rfl) (hdb : (cls == ("__debug__" : Str)) = false := by decide) (he : starEach (e :: es) X.env = (false, eval e X.env) :: starEach es X.env := by rfl) (hpl : (backTo pos (starEach es X.env)).any (·.1) = false := by rfl) :
    SE X W (.Call (.Name cls p) (e :: es) [] pos) (mMake cls mf n ma) := by
  obtain ⟨C, f, fd, oc, fi, fn, FD, G⟩ := F.ex
  obtain ⟨mk1, mk2⟩ := mk C oc
  refine ⟨fun pins s σ H Q I h => ?_⟩
  refine wpAny_Call_Name_kw (ld_glob I hg oc.gl ?_ hdb)
  refine PySem.W.callWith_K (h₀ := X.base) I.ok.mod.kin mk2 (thn (ha.run pos pins s σ H (fun vs H1 => ∀ x dx, H1 x = none → H1 dx = none → dx ≠ x → spM X.K ps.length mf (.ref x :: vs) (upd (upd H1 dx (.own x)) x (.ins C dx [])) (fun v H2 => v = .non ∧ Q (.ref x) H2) (fun c d H' => W c d σ H')) I ?_)
    fun us s1 ⟨vs, H1, I1, r, q⟩ => ⟨I1.kIn, run_makeG ⟨mk1, fi, fn, mk2⟩ G (c.rm.mono hj) c.gd c.tk (bd f fd FD) I1 r q⟩) he hpl
  refine tm_bind (f := fun us env M1 => if us.length = n then (mf (.ref M1.length :: us) (M1 ++ [.ins cls []])).bind fun d M2 => match d with
      | .non => (R.ok (D.ref M1.length) M2 : R D)
      | _ => .err
    else .err) h fun us M1 ρ1 H1 vs env R1 E1 dd h => ?_
  split at h
  rotate_left
  · exact h.elim
  rename_i hl
  intro x dx hx hdx ne
  have hx2 : (upd H1 dx (.own x)) x = none := by rw [upd_ne (Ne.symm ne)]; exact hx
  have S0 : Stp ρ1 H1 (ρ1.add x) (upd (upd H1 dx (.own x)) x (.ins C dx [])) := (Stp.alloc hdx).trans (Stp.cell hx2)
  have R2 : Rel X.K (ρ1.add x) (M1 ++ [.ins cls []]) (upd (upd H1 dx (.own x)) x (.ins C dx [])) := (R1.alloc hdx).cell hx2 ⟨x, C, dx, [], R1.lastAt, .inl oc.nm, upd_same, .nil⟩
  refine ⟨by rw [List.length_cons, ← Dens.length dd, hl, hps], ρ1.add x, M1 ++ [.ins cls []], D.ref M1.length :: us, R2, dens_cons.mpr ⟨_, _, rfl, den_ref.mpr ⟨x, some x, rfl, R1.lastAt, fun b e => (Option.some.inj e).symm⟩, Dens.step R1 S0 _ _ dd⟩, ?_⟩
  cases e : mf (.ref M1.length :: us) (M1 ++ [.ins cls []]) with
  | err => rw [e] at h; exact h.elim
  | exc cc fs M2 =>
    rw [e] at h
    exact fun ρ' H' d cv cn S R' xr => h ρ' H' d cv cn (S0.trans S) R' xr
  | ok d M2 =>
    rw [e] at h
    simp only [R.bind_ok] at h
    split at h
    · intro ρ' H' v S R' dv
      refine ⟨den_non.mp dv, h ρ' H' (.ref x) (S0.trans S) R' ?_⟩
      rcases S.pre _ _ (R1.lastAt (p := x)) with q | q
      · exact den_ref.mpr ⟨x, some x, rfl, q, fun b e => (Option.some.inj e).symm⟩
      · exact den_ref.mpr ⟨x, none, rfl, q, fun b e => by cases e⟩
    · exact h.elim
end
end Mi

end

section
/-! Mi, part 32: a comprehension's list as a cell. -/
namespace Mi
open PySem PySem.Spec PyProof.Rows L2
section
variable {K : PySem.W.Frag} {ρ ρ1 : Rho} {M : MH} {H H1 : Hp} {p : Addr}
theorem stp_told (S : Stp ρ1 H1 ρ H) (hD : H1 p = none) : Stp ρ1 H1 (ρ.add p) H where
  pre := fun l o h => by
    rcases S.pre l o h with q | q
    · exact .inl (get_front q)
    · exact .inr (get_front q)
  new := fun a h => by
    rcases List.mem_append.mp h with h | h
    · exact S.new a h
    · have e : some a = some p := by simpa using h
      cases e
      exact .inr hD
  keep := S.keep
  hid := S.hid
theorem Tr.told {xs : List V} (hp : H p = some (.lst xs)) : Tr (ρ.hide p) H (ρ.add p) H where
  pre := fun _ _ h => .inl (get_front h)
  lst := fun a ys h n m => by
    refine ⟨h, fun z => ?_, fun z => m (List.mem_cons_of_mem _ z)⟩
    rcases List.mem_append.mp z with z | z
    · exact n z
    · have e : some a = some p := by simpa using z
      cases e
      exact m List.mem_cons_self
  tup := fun _ _ h => h
  dct := fun a ks h n => by
    refine ⟨h, fun z => ?_⟩
    rcases List.mem_append.mp z with z | z
    · exact n z
    · have e : some a = some p := by simpa using z
      cases e
      obtain ⟨u, h⟩ := h; rw [hp] at h; cases h
  ext := fun _ _ h => h
  xd := fun _ _ h => h
theorem Rel.told (R : Rel K (ρ.hide p) M H) {ds : List D} {xs : List V} (hp : H p = some (.lst xs)) (dd : Dens K (ρ.hide p) H ds xs) (n2 : p ∉ ρ.h) : Rel K (ρ.add p) (M ++ [.lst ds]) H where
  len := by
    show (ρ.c ++ [some p]).length = _
    rw [List.length_append, List.length_append, R.unhide.len]; rfl
  hid := fun a m => by
    obtain ⟨n, xs, e⟩ := R.hid a (List.mem_cons_of_mem _ m)
    refine ⟨fun z => ?_, xs, e⟩
    rcases List.mem_append.mp z with z | z
    · exact n z
    · have e : some a = some p := by simpa using z
      cases e
      exact n2 m
  inj := fun i j a h1 h2 => by
    have h1 : (ρ.c ++ [some p])[i]? = some (some a) := h1
    have h2 : (ρ.c ++ [some p])[j]? = some (some a) := h2
    have hf : some p ∉ ρ.c := (R.hid p List.mem_cons_self).1
    have side : ∀ k : Nat, (ρ.c ++ [some p])[k]? = some (some a) → ρ.c[k]? = some (some a) ∨ (k = ρ.c.length ∧ a = p) := fun k h => by
      by_cases hk : k < ρ.c.length
      · rw [List.getElem?_append_left hk] at h
        exact .inl h
      · have hk2 := (List.getElem?_eq_some_iff.mp h).1
        rw [List.length_append] at hk2
        have hk3 : k = ρ.c.length := by
          have : [some p].length = 1 := rfl
          omega
        subst hk3
        rw [get_last] at h
        cases h
        exact .inr ⟨rfl, rfl⟩
    rcases side i h1 with q | ⟨q, e⟩ <;> rcases side j h2 with r | ⟨r, f⟩
    · exact R.unhide.inj i j a q r
    · subst f; exact absurd (mem_of_get q) hf
    · subst e; exact absurd (mem_of_get r) hf
    · rw [q, r]
  obj := fun j u e => by
    have T : Tr (ρ.hide p) H (ρ.add p) H := Tr.told hp
    by_cases hj : j < M.length
    · rw [List.getElem?_append_left hj] at e
      have x := R.obj j u e
      cases u with
      | lst ds =>
        obtain ⟨b, xs, h1, h2, h3⟩ := x
        exact ⟨b, xs, get_front h1, h2, Dens.tr T _ _ h3⟩
      | dct kvs =>
        obtain ⟨b, xs, h1, h2, h3⟩ := x
        exact ⟨b, xs, get_front h1, h2, DenP.tr T h3⟩
      | ins C fs =>
        obtain ⟨b, Ca, dx, gs, h1, cn, h2, h3⟩ := x
        exact ⟨b, Ca, dx, gs, get_front h1, cn, h2, DenP.tr T h3⟩
      | gone => exact get_front x
    · have hj2 := (List.getElem?_eq_some_iff.mp e).1
      rw [List.length_append] at hj2
      have hj3 : j = M.length := by
        have : [MO.lst ds].length = 1 := rfl
        omega
      subst hj3
      rw [get_last] at e
      cases e
      exact ⟨p, xs, R.unhide.lastAt, hp, Dens.tr T _ _ dd⟩
end
def mLcC (mi : MA) (g : D → En → Option En) (t : MT) (e : ME) (vs : List Nat) : ME := fun env M => (mi env M).bind fun items M1 => if items.length < lim then (lcGo (lcOne g t e (wipeE env vs)) items M1).bind fun ds M2 => .ok (.ref M2.length) (M2 ++ [.lst ds]) else .err
section
variable {X : Cx} {W : WX}
theorem lc_impC {K : PySem.W.Frag} {mi : MA} {js vs : List Nat} {g : D → En → Option En} {mt : MT} {me : ME} {σ : L2.St} {H : Hp} {Q : VK} (hj : ∀ j ∈ js, j ∈ vs) (h : tm K (DnD K) W (mLcC mi g mt me vs) σ H Q) :
    tLc (tm K (DnI K) W mi) (gW K js g) (tm K DnB W0 mt) (tm K (DnD K) W0 me) vs σ H Q := by
  refine tm_bind (f := fun items env M1 => if items.length < lim then (lcGo (lcOne g mt me (wipeE env vs)) items M1).bind fun ds M2 => (R.ok (D.ref M2.length) (M2 ++ [.lst ds]) : R D) else .err) h fun items M1 ρ1 H1 J env R1 E1 wk h => ?_
  intro Dl hD
  split at h
  rotate_left
  · exact h.elim
  rename_i hlim
  have tot : lcGo (lcOne g mt me (wipeE env vs)) items M1 ≠ .err := fun e => by
    rw [e] at h
    exact h
  -- the walk over the items
  have wk' : Wk K ρ1 H1 J items := wk
  refine ⟨fun i m H' => m = items.length - i ∧ i ≤ items.length ∧ LcP K ρ1 M1 H1 Dl (lcOne g mt me (wipeE env vs)) items i H', ⟨items.length, by simp, Nat.zero_le _, lcP_start R1 hD⟩, ?_⟩
  rintro i m H' ⟨rfl, hi', ρ, M, acc, ds, Rl, S, T, eD, dd, hl, eq⟩
  by_cases hlt : i < items.length
  · refine .inr ⟨wk'.goes i _ M H' hlt Rl T (S.fk R1), fun H'' => i + 1 ≤ items.length ∧ LcP K ρ1 M1 H1 Dl (lcOne g mt me (wipeE env vs)) items (i + 1) H'', fun H'' p => ⟨items.length - (i + 1), by omega, rfl, p.1, p.2⟩, fun x H2 y => ?_⟩
    have hx : items[i]? = some items[i] := List.getElem?_eq_getElem hlt
    obtain ⟨R2, S2, dx⟩ := wk'.yields i _ M H' x H2 items[i] hx Rl T (S.fk R1) y
    have T2 : Tr (ρ.hide Dl) H' (ρ.hide Dl) H2 := S2.tr Rl
    rw [drop_cons hx] at eq
    -- what the turn comes to
    have e1 : ∀ r, lcOne g mt me (wipeE env vs) items[i] M = r → r ≠ .err := fun r e z => by
      refine tot ?_
      rw [eq]
      show ((lcOne g mt me (wipeE env vs) items[i] M).bind _).bind _ = _
      rw [e, z]
      rfl
    cases hgx : g items[i] (wipeE env vs) with
    | none => exact absurd (by unfold lcOne; rw [hgx]) (e1 _ rfl)
    | some env' =>
      have E2 : EnR K (ρ.hide Dl) H2 (wipeE env vs) (L2.wipe σ vs) := ((E1.tr T).tr T2).wipe _
      refine ⟨ρ.hide Dl, M, items[i], _, env', R2, E2, dx, hgx, fun σ2 E3 l3 keep => ⟨wipe_same (by rw [l3, wipe_length]) fun k hk => keep k fun z => hk (hj k z), ?_⟩⟩
      -- the tests
      have step : lcOne g mt me (wipeE env vs) items[i] M = (noX (mt env' M)).bind fun b M1 => if b = true then (noX (me env' M1)).bind fun d M2 => .ok (some d) M2 else .ok none M1 := by
        unfold lcOne
        rw [hgx]
      refine ⟨ρ.hide Dl, M, env', R2, E3, ?_⟩
      cases ht1 : mt env' M with
      | err => exact (e1 _ (by rw [step, ht1]; rfl)) rfl
      | exc c fs Mx => exact ((e1 _ (by rw [step, ht1]; rfl)) rfl).elim
      | ok b M3 =>
        intro ρ3 H3 b' S3 R3 eb
        cases (show b = b' from eb)
        have eD3 : H3 Dl = some (.lst acc) := S3.keep Dl _ (S2.keep Dl _ eD (Rl.hid Dl List.mem_cons_self).1) (R2.hid Dl List.mem_cons_self).1
        have T3 : Tr (ρ.hide Dl) H' ρ3 H3 := T2.trans (S3.tr R2)
        have Sx : Stp (ρ.hide Dl) H' ρ3 H3 := S2.trans S3
        cases b with
        | false =>
          show (if false = true then _ else _)
          rw [if_neg (by decide)]
          refine ⟨hlt, ⟨ρ3.c, ρ.h⟩, M3, acc, ds, ?_, stp_out hD S Sx, ?_, eD3, ?_, Nat.le_succ_of_le hl, ?_⟩
          · rw [← rho_hide Sx.hid]; exact R3
          · rw [← rho_hide Sx.hid]; exact T.trans T3
          · rw [← rho_hide Sx.hid]; exact Dens.tr T3 _ _ dd
          · rw [eq]
            show ((lcOne g mt me (wipeE env vs) items[i] M).bind _).bind _ = _
            rw [step, ht1]
            show (((R.ok (none : Option D) M3)).bind _).bind _ = _
            simp only [R.bind_ok]
            cases lcGo (lcOne g mt me (wipeE env vs)) (items.drop (i + 1)) M3 <;> rfl
        | true =>
          show (if true = true then _ else _)
          rw [if_pos rfl]
          refine ⟨ρ3, M3, env', R3, E3.tr (S3.tr R2), ?_⟩
          cases he1 : me env' M3 with
          | err => exact (e1 _ (by rw [step, ht1]; show (R.bind (noX (me env' M3)) _) = _; rw [he1]; rfl)) rfl
          | exc c fs Mx => exact ((e1 _ (by rw [step, ht1]; show (R.bind (noX (me env' M3)) _) = _; rw [he1]; rfl)) rfl).elim
          | ok d M4 =>
            intro ρ4 H4 v S4 R4 dv
            have m3 : Dl ∈ ρ3.h := by rw [Sx.hid]; exact List.mem_cons_self
            have m4 : Dl ∈ ρ4.h := by rw [S4.hid]; exact m3
            have eD4 : H4 Dl = some (.lst acc) := S4.keep Dl _ eD3 (R3.hid Dl m3).1
            have Sy : Stp (ρ.hide Dl) H' ρ4 H4 := Sx.trans S4
            have T4 : Tr (ρ.hide Dl) H' ρ4 H4 := T3.trans (S4.tr R3)
            have T5 : Tr ρ4 H4 ρ4 (upd H4 Dl (.lst (acc ++ [v]))) := Tr.hidden m4 eD4
            have hsz : acc.length < sizeLine := lim_lt (by omega)
            refine ⟨acc, eD4, hsz, hlt, ⟨ρ4.c, ρ.h⟩, M4, acc ++ [v], ds ++ [d], ?_, stp_app hD (stp_out hD S Sy), ?_, upd_same, ?_, ?_, ?_⟩
            · rw [← rho_hide Sy.hid]; exact R4.hidden m4 eD4
            · rw [← rho_hide Sy.hid]; exact (T.trans T4).trans T5
            · rw [← rho_hide Sy.hid]
              exact (Dens.tr (T4.trans T5) _ _ dd).append (dens_cons.mpr ⟨v, [], rfl, Den.tr T5 _ _ dv, dens_nil.mpr rfl⟩)
            · rw [List.length_append]
              show acc.length + 1 ≤ i + 1
              omega
            · rw [eq]
              show ((lcOne g mt me (wipeE env vs) items[i] M).bind _).bind _ = _
              rw [step, ht1]
              show ((R.bind (noX (me env' M3)) _).bind _).bind _ = _
              rw [he1]
              show (((R.ok (some d) M4)).bind _).bind _ = _
              simp only [R.bind_ok]
              cases lcGo (lcOne g mt me (wipeE env vs)) (items.drop (i + 1)) M4 with
              | ok r M5 => simp
              | exc c fs M5 => rfl
              | err => rfl
  · have e : i = items.length := by omega
    subst e
    refine .inl ⟨wk'.stops _ M H' Rl T (S.fk R1), ?_⟩
    rw [List.drop_length] at eq
    have eq2 : lcGo (lcOne g mt me (wipeE env vs)) items M1 = .ok (ds ++ []) M := eq
    rw [eq2, List.append_nil] at h
    obtain ⟨n1, _⟩ := Rl.hid Dl List.mem_cons_self
    have n2 : Dl ∉ ρ.h := by
      rw [S.hid]
      exact R1.freshH hD
    exact h (ρ.add Dl) H' (.ref Dl) (stp_told S hD) (Rl.told eD dd n2) (den_ref.mpr ⟨Dl, some Dl, rfl, Rl.unhide.lastAt, fun b e => Option.some.inj e.symm⟩)
theorem s_lcC {elt tg iter : Expr} {ifs : List Expr} {scope : Scope} {own : List (Str × Nat)} {pos : Pos} {mi : MA} {js : List Nat} {g : D → En → Option En} {mt : MT} {me : ME} (hc : X.calm = true) (hN : X.N.Nodup) (hi : SI X W tg iter mi) (ok : BlkOk X.N X.env.scope scope own)
    (hj : ∀ j ∈ js, j ∈ own.map (·.2))
    (hg : ∀ (s : Shared) (H : Hp) (C : Addr) (cl : List (Str × Addr)) (fp : List Addr), SG (X.blk s H scope (compEnvC scope cl C X.env) fp) tg js g)
    (ht : ∀ (s : Shared) (H : Hp) (C : Addr) (cl : List (Str × Addr)) (fp : List Addr), SPt (X.blk s H scope (compEnvC scope cl C X.env) fp) W0 ifs mt)
    (he : ∀ (s : Shared) (H : Hp) (C : Addr) (cl : List (Str × Addr)) (fp : List Addr), SE (X.blk s H scope (compEnvC scope cl C X.env) fp) W0 elt me) (hs : ∀ x, foldedSetIterable iter X.env x = pure x := by intro _; rfl) :
    SE X W (.ListComp elt [⟨tg, iter, ifs, 0⟩] scope pos) (mLcC mi g mt me (own.map (·.2))) :=
  pe_imp (pe_lc (g := gW X.K js g) (tt := tm X.K DnB W0 mt) (te := tm X.K (DnD X.K) W0 me) hc hN hi ok (fun s H C cl fp => gW_of (hg s H C cl fp)) (fun s H C cl fp => ht s H C cl fp) (fun s H C cl fp => he s H C cl fp) hs) fun _ _ _ h => lc_impC hj h
end
end Mi

end

section
/-! Mi, part 33: int, list.index, |, dict.get. -/
namespace Mi
open PySem PySem.Spec PyProof.Rows L2
def intD : OpN := fun xs M => match xs with
  | [.int i] => .ok (.int i) M
  | [.bl b] => .ok (.int (if b then 1 else 0)) M
  | _ => .err
theorem q_intD : QuietN intD := by
  intro x M c fs M' e
  unfold intD at e
  (repeat' split at e) <;> cases e
def indexD : OpM := fun x xs M => match x with
  | .lst ds => match xs with
    | [y] => if scal y && ds.all scal then match ds.findIdx? (fun z => deq z y) with
        | some j => .ok (.int j) M
        | none => .err
      else .err
    | _ => .err
  | _ => .err
theorem q_index : QuietM indexD := by
  intro x xs M c fs M' e
  unfold indexD at e
  (repeat' split at e) <;> cases e
section
variable {X : Cx} {W : WX}
theorem o_intD : OpNR X (.type "int") intD := by
  intro ρ M H xs vs Q Rl dv h
  unfold intD at h
  split at h
  · obtain ⟨v, rfl, d⟩ := dens_one dv
    rw [den_int] at d
    subst d
    exact ⟨_, call_int1, .inl ⟨_, rfl, here Rl h (den_int.mpr rfl)⟩⟩
  · obtain ⟨v, rfl, d⟩ := dens_one dv
    rw [den_bl] at d
    subst d
    exact ⟨_, call_int1, .inr ⟨_, rfl, here Rl h (den_int.mpr rfl)⟩⟩
  · exact h.elim
theorem all_flatV {K : PySem.W.Frag} {ρ : Rho} {H : Hp} : ∀ {ds : List D} {xs : List V}, ds.all scal = true → Dens K ρ H ds xs → xs.all flatV = true
  | [], xs, _, h => by
    rw [dens_nil] at h
    subst h
    rfl
  | d :: ds, xs, s, h => by
    obtain ⟨v, r, rfl, h1, h2⟩ := dens_cons.mp h
    rw [List.all_cons, Bool.and_eq_true] at s
    rw [List.all_cons, scal_flat s.1 h1, all_flatV s.2 h2]
    rfl
theorem o_index : OpMR X "list.index" indexD := by
  intro ρ M H x xs v vs Q Rl dx dv h
  unfold indexD at h
  split at h
  · rename_i ds
    split at h
    · rename_i y
      split at h
      · rename_i hs
        rw [Bool.and_eq_true] at hs
        split at h
        · rename_i j e
          obtain ⟨w, rfl, dy⟩ := dens_one dv
          obtain ⟨a, ys, rfl, hsq, hd⟩ := den_lst.mp dx
          obtain ⟨hj, e1, e2⟩ := List.findIdx?_eq_some_iff_getElem.mp e
          have ej : ds[j]? = some ds[j] := List.getElem?_eq_getElem hj
          obtain ⟨z, h1, h2⟩ := hd.get ej
          have sc : ∀ i (hi : i < ds.length), scal ds[i] = true := fun i hi => List.all_eq_true.mp hs.2 _ (List.getElem_mem hi)
          refine ⟨_, mt_index, a, ys, w, j, z, rfl, rfl, hsq.sq, scal_flat hs.1 dy, all_flatV hs.2 hd, h1, by rw [scal_eq (sc j hj) hs.1 h2 dy]; exact e1, fun m z' hm ez => ?_, here Rl h (den_int.mpr rfl)⟩
          obtain ⟨d', f1, f2⟩ := hd.getV ez
          obtain ⟨hm2, rfl⟩ := List.getElem?_eq_some_iff.mp f1
          rw [scal_eq (sc m hm2) hs.1 f2 dy]
          simpa using e2 m hm
        · exact h.elim
      · exact h.elim
    · exact h.elim
  · exact h.elim
end
end Mi
namespace Mi
open PySem PySem.Spec PyProof.Rows L2
theorem atm_mk {K : PySem.W.Frag} {mg : Str → Option Value} {cls m qual : Str} {st : Stmt} {C f : Addr} {oc : Value} {od an : Option Addr} {sl : Array (Option Value)} {kV dc pm cd ct : Value} (o : OwnC K mg cls C) (fi : PySem.W.findIn K (.ref C) m = some (some (.ref f))) (fn : PySem.W.isFn K (.ref f) = true)
    (l : K.lookup f = some ⟨oc, od, .func (PySem.W.fnOf m qual (defArgs st) (defBody st) (defScope st) .none kV dc pm an cd ct), sl⟩) (c : PySem.W.codeIn K cd qual = true) (k : PySem.W.keepIn K (.ref f) = true) : AtM K mg cls m qual st :=
  ⟨C, f, _, o, fi, fn, ⟨⟨oc, od, .none, kV, dc, pm, an, cd, ct, sl, rfl, l, c, .inl ⟨rfl, rfl⟩, .inl rfl⟩, k⟩⟩
def orD : Op2 := int2 fun i j => some (Builtin.bitOr i j)
theorem o_or {X : Cx} : Op2R X (binaryOp .BitOr) orD := o_int2' op_or fun i j z e => by cases e; rfl
end Mi

end

section
/-! Mi, part 34: dict displays. -/
namespace Mi
open PySem PySem.Spec PyProof.Rows L2
def mPairs : List (ME × ME) → En → MH → R (List (D × D))
  | [], _, M => .ok [] M
  | p :: r, env, M => (p.1 env M).bind fun x M1 => (p.2 env M1).bind fun y M2 => (mPairs r env M2).bind fun ps M3 => .ok ((x, y) :: ps) M3
def keyed : List (D × D) → Option (List (Key × D))
  | [] => some []
  | p :: r => match keyOf p.1 with
    | some k => (keyed r).map fun kvs => (k, p.2) :: kvs
    | none => none
def mergeM (kvs more : List (Key × D)) : List (Key × D) := more.foldl (fun acc kv => putM acc kv.1 kv.2) kvs
def mDisp (ps : List (ME × ME)) : ME := fun env M => (mPairs ps env (M ++ [.dct []])).bind fun xs M2 => match keyed xs with
  | some kvs => match M2[M.length]? with
    | some (.dct []) => if kvs.length ≤ 15 then .ok (.ref M.length) (M2.set M.length (.dct (mergeM [] kvs))) else .err
    | _ => .err
  | none => .err
abbrev dnPP (K : PySem.W.Frag) (ρ : Rho) (H : Hp) : List (D × D) → List (V × V) → Prop := Paired fun a b => Den K ρ H a.1 b.1 ∧ Den K ρ H a.2 b.2
theorem pairs_tm {K : PySem.W.Frag} {W : WX} {σ : L2.St} {env : En} : ∀ {pms : List (ME × ME)} {ρ : Rho} {M : MH} {H : Hp} {Q : List (V × V) → Hp → Prop}, Rel K ρ M H → EnR K ρ H env σ → Ok K ρ H (dnPP K) (fun c d H' => W c d σ H') Q (mPairs pms env M) →
    tPairs (pms.map fun p => (tm K (DnD K) W p.1, tm K (DnD K) W p.2)) σ H Q
  | [], ρ, M, H, Q, Rl, E, h => h ρ H [] (Stp.refl (K := K) (M := M)) Rl .nil
  | p :: r, ρ, M, H, Q, Rl, E, h => ⟨ρ, M, env, Rl, E, h.bind fun x M1 ρ1 H1 v _ S1 R1 dx h1 => ⟨ρ1, M1, env, R1, E.step Rl S1, h1.bind fun y M2 ρ2 H2 w _ S2 R2 dy h2 => pairs_tm R2 ((E.step Rl S1).step R1 S2) (h2.bind fun ps M3 ρ3 H3 vs _ S3 R3 dps h3 =>
      h3 ρ3 H3 ((v, w) :: vs) (Stp.refl (K := K) (M := M3)) R3 (.cons ⟨Den.step R2 S3 _ _ (Den.step R1 S2 _ _ dx), Den.step R2 S3 _ _ dy⟩ dps))⟩⟩
theorem keyed_v {K : PySem.W.Frag} {ρ : Rho} {H : Hp} {xs : List (D × D)} {ps : List (V × V)} (h : dnPP K ρ H xs ps) : ∀ {kvs : List (Key × D)}, keyed xs = some kvs → ∃ qs : List (Key × V), ps = qs.map (fun kv => (kV kv.1, kv.2)) ∧ DenP K ρ H kvs qs := by
  induction h with
  | nil => intro kvs e; cases e; exact ⟨[], rfl, .nil⟩
  | @cons p q xs ps r _ ih =>
    intro kvs e
    unfold keyed at e
    split at e
    · rename_i k hk
      obtain ⟨ms, e1, e2⟩ := Option.map_eq_some_iff.mp e
      subst e2
      obtain ⟨qs, g1, g2⟩ := ih e1
      refine ⟨(k, q.2) :: qs, ?_, .cons ⟨rfl, r.2⟩ g2⟩
      rw [List.map_cons, ← g1]
      obtain ⟨q1, q2⟩ := q
      have z : q1 = kV k := keyOf_v hk r.1
      subst z
      rfl
    · cases e
theorem denP_merge {K : PySem.W.Frag} {ρ : Rho} {H : Hp} {more : List (Key × D)} {qs : List (Key × V)} (h : DenP K ρ H more qs) : ∀ {kvs : List (Key × D)} {ks : List (Key × V)}, DenP K ρ H kvs ks → DenP K ρ H (mergeM kvs more) (mergeK ks qs) := by
  induction h with
  | nil => intro kvs ks g; exact g
  | @cons p q ps qs r _ ih =>
    intro kvs ks g
    obtain ⟨k, d⟩ := p
    obtain ⟨k', v⟩ := q
    obtain ⟨e, dv⟩ := r
    simp only at e dv
    subst e
    exact ih (denP_put g dv)
section
variable {X : Cx} {W : WX}
def SPP (X : Cx) (W : WX) (pos : Pos) (keys : List (Option Expr)) (values : List Expr) (pms : List (ME × ME)) : Prop := PPs X pos keys values (pms.map fun p => (tm X.K (DnD X.K) W p.1, tm X.K (DnD X.K) W p.2))
theorem pp_nil {pos : Pos} : SPP X W pos [] [] [] := pps_nil
theorem pp_cons {pos : Pos} {k v : Expr} {ks : List (Option Expr)} {vs : List Expr} {mk mv : ME} {r : List (ME × ME)} (hk : SE X W k mk) (hv : SE X W v mv) (hr : SPP X W pos ks vs r) : SPP X W pos (some k :: ks) (v :: vs) ((mk, mv) :: r) := pps_cons hk hv hr
theorem s_disp {pos : Pos} {keys : List (Option Expr)} {values : List Expr} {pms : List (ME × ME)} (h : SPP X W pos keys values pms) (hall : keys.all (·.isSome) = true := by rfl) (hl : keys.length = values.length := by rfl) (h0 : keys ≠ [] := by simp) (h15 : keys.length ≤ 15 := by decide) : SE X W (.Dict keys values pos) (mDisp pms) := by
  refine pe_imp (pe_disp h hall hl h0 h15) fun σ H Q q => ?_
  obtain ⟨ρ, M, env, Rl, E, q⟩ := q
  intro p hp
  have S0 : Stp ρ H (ρ.add p) (upd H p (.dK [])) := Stp.cell hp
  have R0 : Rel X.K (ρ.add p) (M ++ [.dct []]) (upd H p (.dK [])) := Rl.cell hp ⟨p, [], Rl.lastAt, upd_same, .nil⟩
  refine pairs_tm (M := M ++ [.dct []]) R0 (E.step Rl S0) ?_
  have q' : Ok X.K (ρ.add p) (upd H p (.dK [])) (DnD X.K) (fun c d H' => W c d σ H') Q (mDisp pms env M) := by
    cases e : mDisp pms env M with
    | err => rw [e] at q; exact q
    | ok d M1 => rw [e] at q; exact fun ρ' H' v S R' dv => q ρ' H' v (S0.trans S) R' dv
    | exc c fs M1 => rw [e] at q; exact fun ρ' H' d cv cn S R' x => q ρ' H' d cv cn (S0.trans S) R' x
  refine Ok.bind (f := fun xs M2 => match keyed xs with
    | some kvs => match M2[M.length]? with
      | some (.dct []) => if kvs.length ≤ 15 then .ok (.ref M.length) (M2.set M.length (.dct (mergeM [] kvs))) else .err
      | _ => .err
    | none => (.err : R D)) q' fun xs M2 ρ2 H2 ps _ S2 R2 dps h2 => ?_
  split at h2
  rotate_left
  · exact h2.elim
  rename_i kvs ek
  split at h2
  rotate_left
  · exact h2.elim
  rename_i hm
  split at h2
  rotate_left
  · exact h2.elim
  rename_i h15'
  obtain ⟨qs, g1, g2⟩ := keyed_v dps ek
  obtain ⟨a, ks, k1, k2, k3⟩ := R2.obj _ _ hm
  have ea : a = p := by
    rcases S2.pre _ _ (Rl.lastAt (p := p)) with z | z
    · rw [k1] at z; cases z; rfl
    · rw [k1] at z; cases z
  subst ea
  cases k3
  refine ⟨k2, qs, g1, by rw [← Paired.length g2]; exact h15', ?_⟩
  have S3 : Stp ρ2 H2 ρ2 (upd H2 a (.dK (mergeK [] qs))) := Stp.write k1
  refine h2 ρ2 _ (.ref a) S3 (R2.write k1 ⟨a, mergeK [] qs, k1, upd_same, DenP.step R2 S3 (denP_merge g2 .nil)⟩) (den_ref.mpr ⟨a, some a, rfl, k1, fun b e => (Option.some.inj e).symm⟩)
end
end Mi

end

section
/-! Mi, part 35: dict.get. -/
namespace Mi
open PySem PySem.Spec PyProof.Rows L2
def isDct (x : D) (M : MH) : Bool := match x with
  | .dct _ _ => true
  | .ref l => match M[l]? with
    | some (.dct _) => true
    | _ => false
  | _ => false
def dgetM (x y : D) (M : MH) : Option (Option D) := match keyOf y with
  | some k => match x with
    | .dct ks ds => some (dctGet ks ds k)
    | .ref l => match M[l]? with
      | some (.dct kvs) => some ((kvs.find? fun p => decide (p.1 = k)).map (·.2))
      | _ => none
    | _ => none
  | none => none
def mGet1 (mo mk : ME) : ME := fun env M => (mo env M).bind fun x M1 => if isDct x M1 = true then (mk env M1).bind fun y M2 => match dgetM x y M2 with
    | some o => .ok (o.getD .non) M2
    | none => .err
  else .err
def mGet2 (mo mk md : ME) : ME := fun env M => (mo env M).bind fun x M1 => if isDct x M1 = true then (mk env M1).bind fun y M2 => (md env M2).bind fun z M3 => match dgetM x y M3 with
    | some o => .ok (o.getD z) M3
    | none => .err
  else .err
theorem denP_none {κ : Type} [DecidableEq κ] {K : PySem.W.Frag} {ρ : Rho} {H : Hp} {ps : List (κ × D)} {qs : List (κ × V)} (h : DenP K ρ H ps qs) {k : κ} (e : (ps.find? fun p => decide (p.1 = k)).map (·.2) = none) : valV qs k = none := by
  induction h with
  | nil => rfl
  | @cons p q ps qs r _ ih =>
    obtain ⟨p1, p2⟩ := p
    obtain ⟨q1, q2⟩ := q
    obtain ⟨e1, _⟩ := r
    simp only at e1
    subst e1
    unfold valV at ih ⊢
    rw [List.find?_cons] at e ⊢
    by_cases z : p1 = k
    · simp [z] at e
    · simp only [decide_eq_false z] at e ⊢
      exact ih e
theorem isD_of {K : PySem.W.Frag} {ρ : Rho} {M : MH} {H : Hp} {x : D} {v : V} (Rl : Rel K ρ M H) (dx : Den K ρ H x v) (h : isDct x M = true) : ∃ a, v = .ref a ∧ IsD H a := by
  unfold isDct at h
  split at h
  · obtain ⟨p, kvs, rfl, hH, _⟩ := den_dct.mp dx; have hH := hH.rd
    exact ⟨p, rfl, .inl ⟨kvs, hH⟩⟩
  · rename_i l
    obtain ⟨p, o, rfl, hl, ho⟩ := den_ref.mp dx
    split at h
    · rename_i kvs hm
      obtain ⟨b, ks, h1, h2, h3⟩ := Rl.obj l _ hm
      rw [hl] at h1
      cases h1
      have e := ho b rfl
      subst e
      exact ⟨b, rfl, .inl ⟨ks, .inl h2⟩⟩
    · cases h
  · cases h
theorem dget_of {K : PySem.W.Frag} {ρ : Rho} {M : MH} {H : Hp} {x y : D} {v w : V} {o : Option D} (Rl : Rel K ρ M H) (dx : Den K ρ H x v) (dy : Den K ρ H y w) (h : dgetM x y M = some o) : ∃ a r, v = .ref a ∧ DGet H a w r ∧ ∀ (d : D) (u : V), Den K ρ H d u → Den K ρ H (o.getD d) (r.getD u) := by
  unfold dgetM at h
  split at h
  rotate_left
  · cases h
  rename_i k hk
  have ew := keyOf_v hk dy
  subst ew
  have tell : ∀ {ps : List (Key × D)} {qs : List (Key × V)} {a : Addr}, DenP K ρ H ps qs → Rd H a (.dK qs) → (ps.find? fun p => decide (p.1 = k)).map (·.2) = o → ∃ r, DGet H a (kV k) r ∧ ∀ (d : D) (u : V), Den K ρ H d u → Den K ρ H (o.getD d) (r.getD u) := fun {ps qs a} dp rd e => by
    refine ⟨valV qs k, .inl ⟨qs, k, rd, rfl, rfl⟩, fun d u du => ?_⟩
    cases o with
    | none =>
      rw [denP_none dp e]
      exact du
    | some d' =>
      obtain ⟨v, e2, dv⟩ := denP_get dp e
      rw [e2]
      exact dv
  split at h
  · rename_i ks ds
    obtain ⟨p, kvs, rfl, hH, _, e, hd⟩ := den_dct.mp dx; have hH := hH.rd
    have h := Option.some.inj h
    unfold dctGet at h
    rw [← e] at h
    obtain ⟨r, g1, g2⟩ := tell (denP_zip hd) hH h
    exact ⟨p, r, rfl, g1, g2⟩
  · rename_i l
    obtain ⟨p, u, rfl, hl, ho⟩ := den_ref.mp dx
    split at h
    · rename_i kvs hm
      obtain ⟨b, ks, h1, h2, h3⟩ := Rl.obj l _ hm
      rw [hl] at h1
      cases h1
      have e := ho b rfl
      subst e
      obtain ⟨r, g1, g2⟩ := tell h3 (.inl h2) (Option.some.inj h)
      exact ⟨b, r, rfl, g1, g2⟩
    · cases h
  · cases h
section
variable {X : Cx} {W : WX} {o e f : Expr} {apos cpos : Pos} {mo mk md : ME}
theorem s_get1 (c : Cf X) (ho : SE X W o mo) (hk : SE X W e mk) (m : M1 X o "get" apos e cpos := by exact ⟨rfl, rfl, rfl, rfl⟩) : SE X W (.Call (.Attribute o "get" apos) [e] [] cpos) (mGet1 mo mk) := by
  refine pe_imp (pe_dget1 (by have := c.hu; omega) ho hk m) fun σ H Q q => ?_
  refine tm_bind (f := fun x env M1 => if isDct x M1 = true then (mk env M1).bind fun y M2 => match dgetM x y M2 with
      | some o => .ok (o.getD .non) M2
      | none => .err
    else (.err : R D)) q fun x M1 ρ1 H1 v env R1 E1 dx h => ?_
  split at h
  rotate_left
  · exact h.elim
  rename_i hd
  obtain ⟨a, rfl, isd⟩ := isD_of R1 dx hd
  refine ⟨a, rfl, isd, ρ1, M1, env, R1, E1, h.bind fun y M2 ρ2 H2 w _ S2 R2 dy h2 => ?_⟩
  split at h2
  · rename_i o' eo
    obtain ⟨a', r, ea, g, tell⟩ := dget_of R2 (Den.step R1 S2 _ _ dx) dy eo
    cases ea
    exact ⟨r, g, h2 ρ2 H2 _ (Stp.refl (K := X.K) (M := M2)) R2 (tell .non .non (den_non.mpr rfl))⟩
  · exact h2.elim
theorem s_get2 (c : Cf X) (ho : SE X W o mo) (hk : SE X W e mk) (hd : SE X W f md) (m : M2 X o "get" apos e f cpos := by exact ⟨rfl, rfl, rfl, rfl⟩) : SE X W (.Call (.Attribute o "get" apos) [e, f] [] cpos) (mGet2 mo mk md) := by
  refine pe_imp (pe_dget2 (by have := c.hu; omega) ho hk hd m) fun σ H Q q => ?_
  refine tm_bind (f := fun x env M1 => if isDct x M1 = true then (mk env M1).bind fun y M2 => (md env M2).bind fun z M3 => match dgetM x y M3 with
      | some o => .ok (o.getD z) M3
      | none => .err
    else (.err : R D)) q fun x M1 ρ1 H1 v env R1 E1 dx h => ?_
  split at h
  rotate_left
  · exact h.elim
  rename_i hd'
  obtain ⟨a, rfl, isd⟩ := isD_of R1 dx hd'
  refine ⟨a, rfl, isd, ρ1, M1, env, R1, E1, h.bind fun y M2 ρ2 H2 w _ S2 R2 dy h2 => ⟨ρ2, M2, env, R2, E1.step R1 S2, h2.bind fun z M3 ρ3 H3 u _ S3 R3 dz h3 => ?_⟩⟩
  split at h3
  · rename_i o' eo
    obtain ⟨a', r, ea, g, tell⟩ := dget_of R3 (Den.step R2 S3 _ _ (Den.step R1 S2 _ _ dx)) (Den.step R2 S3 _ _ dy) eo
    cases ea
    exact ⟨r, g, h3 ρ3 H3 _ (Stp.refl (K := X.K) (M := M3)) R3 (tell z u dz)⟩
  · exact h3.elim
end
end Mi

end

section
/-! Mi, part 36: list.extend, list.insert of cells. -/
namespace Mi
open PySem PySem.Spec PyProof.Rows L2
def extD : OpM := fun x xs M => match x with
  | .ref l => match M[l]? with
    | some (.lst ds) => match xs with
      | [.ref l2] => match M[l2]? with
        | some (.lst es) => if ds.length + es.length < lim then .ok .non (M.set l (.lst (ds ++ es))) else .err
        | _ => .err
      | _ => .err
    | _ => .err
  | _ => .err
theorem q_ext : QuietM extD := by
  intro x xs M c fs M' e
  unfold extD at e
  (repeat' split at e) <;> cases e
def insD : OpM := fun x xs M => match x with
  | .ref l => match M[l]? with
    | some (.lst ds) => match xs with
      | [.int i, y] => if ds.length < lim ∧ 0 ≤ i ∧ i < 1000000 then .ok .non (M.set l (.lst (ds.take i.toNat ++ [y] ++ ds.drop i.toNat))) else .err
      | _ => .err
    | _ => .err
  | _ => .err
theorem q_ins : QuietM insD := by
  intro x xs M c fs M' e
  unfold insD at e
  (repeat' split at e) <;> cases e
section
variable {X : Cx}
theorem cell_at {K : PySem.W.Frag} {ρ : Rho} {M : MH} {H : Hp} {l : Nat} {ds : List D} {v : V} (Rl : Rel K ρ M H) (dx : Den K ρ H (.ref l) v) (hm : M[l]? = some (.lst ds)) : ∃ b ys, v = .ref b ∧ ρ.c[l]? = some (some b) ∧ H b = some (.lst ys) ∧ Dens K ρ H ds ys := by
  obtain ⟨p, u, rfl, hl, ho⟩ := den_ref.mp dx
  obtain ⟨b, ys, h1, h2, h3⟩ := Rl.obj l _ hm
  have hl2 := h1
  rw [hl] at h1
  cases h1
  have ep := ho b rfl
  subst ep
  exact ⟨b, ys, rfl, hl2, h2, h3⟩
theorem o_ext : OpMR X "list.extend" extD := by
  intro ρ M H x xs v vs Q Rl dx dv h
  unfold extD at h
  split at h
  · rename_i l
    split at h
    · rename_i ds hm
      obtain ⟨b, ys, rfl, hl2, h2, h3⟩ := cell_at Rl dx hm
      split at h
      · rename_i l2
        obtain ⟨w, rfl, dw⟩ := dens_one dv
        split at h
        · rename_i es hm2
          obtain ⟨b2, zs, rfl, hl3, h4, h5⟩ := cell_at Rl dw hm2
          split at h
          · rename_i hz
            have S : Stp ρ H ρ (upd H b (.lst (ys ++ zs))) := Stp.write hl2
            refine ⟨_, mt_extend, b, b2, ys, zs, rfl, rfl, h2, h4, by rw [← h3.length, ← h5.length]; exact Nat.le_of_lt (lim_lt hz), ?_⟩
            exact h ρ _ .non S (Rl.write hl2 ⟨b, ys ++ zs, hl2, upd_same, Dens.step Rl S _ _ (h3.append h5)⟩) (den_non.mpr rfl)
          · exact h.elim
        · exact h.elim
      · exact h.elim
    · exact h.elim
  · exact h.elim
theorem o_ins : OpMR X "list.insert" insD := by
  intro ρ M H x xs v vs Q Rl dx dv h
  unfold insD at h
  split at h
  · rename_i l
    split at h
    · rename_i ds hm
      obtain ⟨b, ys, rfl, hl2, h2, h3⟩ := cell_at Rl dx hm
      split at h
      · rename_i i y
        obtain ⟨v1, r1, rfl, d1, d2⟩ := dens_cons.mp dv
        obtain ⟨w, rfl, dw⟩ := dens_one d2
        rw [den_int] at d1
        subst d1
        split at h
        · rename_i hz
          have S : Stp ρ H ρ (upd H b (.lst (ys.take i.toNat ++ [w] ++ ys.drop i.toNat))) := Stp.write hl2
          refine ⟨_, mt_insert, b, ys, i, w, rfl, rfl, h2, by rw [← h3.length]; exact lim_lt hz.1, hz.2.1, by omega, ?_⟩
          exact h ρ _ .non S (Rl.write hl2 ⟨b, _, hl2, upd_same, Dens.step Rl S _ _ (((h3.take _).append (dens_cons.mpr ⟨w, [], rfl, dw, dens_nil.mpr rfl⟩)).append (h3.drop _))⟩) (den_non.mpr rfl)
        · exact h.elim
      · exact h.elim
    · exact h.elim
  · exact h.elim
end
end Mi

end

section
/-! Mi, part 37: walks over zip of two tuples. -/
namespace Mi
open PySem PySem.Spec PyProof.Rows L2
def zipL (xs ys : List D) : List D := (xs.zip ys).map fun p => .tup [p.1, p.2]
theorem zipL_get {xs ys : List D} {i : Nat} {d : D} (h : (zipL xs ys)[i]? = some d) : ∃ x y, xs[i]? = some x ∧ ys[i]? = some y ∧ d = .tup [x, y] := by
  unfold zipL at h
  rw [List.getElem?_map] at h
  obtain ⟨p, h1, h2⟩ := Option.map_eq_some_iff.mp h
  obtain ⟨x, y⟩ := p
  obtain ⟨g1, g2⟩ := List.getElem?_zip_eq_some.mp h1
  exact ⟨x, y, g1, g2, h2.symm⟩
theorem zipL_len {xs ys : List D} : (zipL xs ys).length = min xs.length ys.length := by
  unfold zipL
  rw [List.length_map, List.length_zip]
theorem wk_zip {K : PySem.W.Frag} {ρ : Rho} {M : MH} {H : Hp} {a b : Addr} {ds es : List D} {xs ys : List V} (Rl : Rel K ρ M H) (hs : SqT K H a xs) (hd : Dens K ρ H ds xs) (hs2 : SqT K H b ys) (hd2 : Dens K ρ H es ys) : Wk K ρ H (RZ.ItzT K a b) (zipL ds es) where
  goes := fun i ρ' M' H' hi R' S _ => by
    rw [zipL_len, hd.length, hd2.length] at hi
    exact ⟨xs, ys, xs[i]'(by omega), ys[i]'(by omega), SqT.tr S hs, SqT.tr S hs2, List.getElem?_eq_getElem (by omega), List.getElem?_eq_getElem (by omega)⟩
  stops := fun ρ' M' H' R' S _ => ⟨xs, ys, SqT.tr S hs, SqT.tr S hs2, by rw [zipL_len, hd.length, hd2.length]; omega⟩
  yields := fun i ρ' M' H' x H'' d hd' R' S _ y => by
    obtain ⟨e1, e2, h1, h2, rfl⟩ := zipL_get hd'
    obtain ⟨v, h3, h4⟩ := hd.get h1
    obtain ⟨v2, h5, h6⟩ := hd2.get h2
    obtain ⟨T, z, z2, rfl, hn, rfl, hz, hz2⟩ := y
    have q1 := hz xs (SqT.tr S hs)
    rw [h3] at q1
    cases q1
    have q2 := hz2 ys (SqT.tr S hs2)
    rw [h5] at q2
    cases q2
    exact ⟨R'.alloc hn, Stp.alloc hn, den_newT R' hn (dens_cons.mpr ⟨_, _, rfl, Den.tr S _ _ h4, dens_cons.mpr ⟨_, _, rfl, Den.tr S _ _ h6, dens_nil.mpr rfl⟩⟩)⟩
def zipD : List D → MH → R (List D) := fun xs M => match xs with
  | [.tup ds, .tup es] => .ok (zipL ds es) M
  | _ => .err
theorem i_zip {X : Cx} {W : WX} {e e2 : Expr} {ma : MA} {p pos tpos : Pos} {elts : List Expr} {kk : Nat} (hm : X.mg "zip" = none) (ha : SA X W [e, e2] ma) (hg : Gl X "zip" := by rfl)
    (hs : starEach [e, e2] X.env = (false, eval e X.env) :: starEach [e2] X.env := by rfl) (hpl : (backTo pos (starEach [e2] X.env)).any (·.1) = false := by rfl) : SI X W (.Tuple elts kk tpos) (.Call (.Name "zip" p) [e, e2] [] pos) (mI zipD ma) := by
  refine ⟨fun pins s σ H Rr I h => ?_⟩
  refine (RZ.pi_zipA hg hm ha hs hpl).run pins s σ H Rr I ?_
  obtain ⟨ρ, M, env, Rl, E, h⟩ := h
  refine ⟨ρ, M, env, Rl, E, h.bind fun ds M1 ρ1 H1 vs _ S R1 dv q => ?_⟩
  unfold zipD at q
  split at q
  · rename_i xs ys
    obtain ⟨v1, r1, rfl, d1, d2⟩ := dens_cons.mp dv
    obtain ⟨v2, rfl, d3⟩ := dens_one d2
    obtain ⟨a, us, rfl, g1, g2⟩ := den_tup.mp d1
    obtain ⟨b, ws, rfl, g3, g4⟩ := den_tup.mp d3
    exact ⟨a, b, us, ws, rfl, .inr ⟨g1, g3, q ρ1 H1 _ (Stp.refl (K := X.K) (M := M1)) R1 (wk_zip R1 g1 g2 g3 g4)⟩⟩
  · exact q.elim
end Mi
namespace Mi
open PySem PySem.Spec PyProof.Rows L2
/-- a def of the text with keyword-only parameters that have defaults -/
theorem at_mkl {K : PySem.W.Frag} {h : Heap} {mg : Str → Option Value} {x : Str} {st : Stmt} {f Dk : Addr} {oc : Value} {od an : Option Addr} {sl : Array (Option Value)} {dc pm cd ct : Value} {kws : List (Str × V)} (X : K.In h) (G : h.Ns mainGlobals mg) (a : PySem.W.nsIn K mainGlobals x = some (some (.ref f)))
    (l : K.lookup f = some ⟨oc, od, .func (PySem.W.fnOf x x (defArgs st) (defBody st) (defScope st) .none (.ref Dk) dc pm an cd ct), sl⟩) (c : PySem.W.codeIn K cd x = true) (k : PySem.W.keepIn K (.ref f) = true)
    (d : ∀ q ∈ kws, ∃ u, PySem.W.nsIn K Dk q.1 = some (some u) ∧ RelV q.2 u) : At K mg x st [] kws :=
  ⟨f, _, PySem.W.mg_of X G a, ⟨⟨oc, od, .none, .ref Dk, dc, pm, an, cd, ct, sl, rfl, l, c, .inl ⟨rfl, rfl⟩, .inr ⟨Dk, rfl, d⟩⟩, k⟩⟩
end Mi

end

section
/-! Mi, part 38: list.extend by a tuple. -/
namespace Mi
open PySem PySem.Spec PyProof.Rows L2 AutoSeq1
theorem list_extend_tup (l : Addr) (items : Array Value) (n : Nat) (b : Addr) (items2 : Array Value) (n2 : Nat) (d : Option Addr) (sl : Array (Option Value)) (hs0 : ¬(!items.isEmpty && Builtin.List.listTooLong (items.size + items2.size)) = true) (hs1 : items.size ≤ sizeLine) (hs2 : items.size + items2.size ≤ sizeLine + 1) :
    Meets (Builtin.«list.extend» ⟨[.ref l, .ref b], []⟩) (fun _ R s => s.heap.get? l = some { cls := .type "list", dict := none, data := .seq items n, slots := #[] } ∧ s.heap.get? b = some { cls := .type "tuple", dict := d, data := .seq items2 n2, slots := sl } ∧ R (.ok (.ret Value.none)) { s with heap := s.heap.update l (Obj.mapSeq fun x => x ++ items2), toks := s.toks }) :=
  .of_wp fun prog w A R s h => by
    obtain ⟨hp, g, dr, tk, os⟩ := s; obtain ⟨hl, hb, h⟩ := h; have f1 := idx_int; have f2 := AutoSeq1.sub_tuple_tuple; have f3 := AutoSeq1.sub_list_list; have f4 := AutoSeq1.sub_tuple_list; have f5 := AutoSeq1.sub_list_tuple;
    have hz' : (items ++ items2).size ≤ sizeLine + 1 := by rw [Array.size_append]; exact hs2
    wp_walk using (wpAny_updateSeq hl rfl (hz := hs1) (_hz' := hz')), wpAny_loadPart' hl, wpAny_loadPart' hb; exact ⟨_, rfl, h⟩
theorem mt_extendT {X : Cx} : MtM X "list.extend" (fun x vs H Q => ∃ (l b : Addr) (xs zs : List V), x = .ref l ∧ vs = [.ref b] ∧ H l = some (.lst xs) ∧ SqT X.K H b zs ∧ xs.length + zs.length ≤ sizeLine ∧ Q .non (upd H l (.lst (xs ++ zs)))) := by
  intro pins s σ H x vs v us Q I rx rv h
  obtain ⟨l, b, xs, zs, rfl, rfl, hH, hB, hz, q⟩ := h
  cases rx
  obtain ⟨u, rfl, ru⟩ := rv.one
  cases ru
  obtain ⟨z, its, n, r, hl, e⟩ := I.lstM hH
  obtain ⟨its2, r2, ⟨o, e1, e2, n2, e3⟩, hz2⟩ := I.tuple hB
  obtain ⟨oc, od, odt, osl⟩ := o
  simp only at e2 e3
  subst e2 e3
  have l2 := r2.length
  have hsz : its.toArray.size + its2.toArray.size ≤ sizeLine := by rw [List.size_toArray, List.size_toArray]; omega
  have hlong : ¬ (!its.toArray.isEmpty && Builtin.List.listTooLong (its.toArray.size + its2.toArray.size)) = true := by
    rw [notLongL hsz, Bool.and_false]
    exact Bool.false_ne_true
  refine call_meets F.slot_list_extend ⟨_, e, rfl⟩ F.entry_list_extend (F.args_list_extend_2 _ _)
    (list_extend_tup l its.toArray n b its2.toArray n2 od osl hlong (by rw [List.size_toArray]; omega) (by omega)) ⟨e, e1, ?_⟩
  refine ⟨.non, _, I.lset (its' := its ++ its2) hH e (by simp) (r.append r2) ?_, rfl, q⟩
  rw [List.length_append]
  exact hz
/-- by a tuple, too -/
def extT : OpM := fun x xs M => match x with
  | .ref l => match M[l]? with
    | some (.lst ds) => match xs with
      | [.tup es] => if ds.length + es.length < lim then .ok .non (M.set l (.lst (ds ++ es))) else .err
      | [.ref l2] => extD (.ref l) [.ref l2] M
      | _ => .err
    | _ => .err
  | _ => .err
theorem q_extT : QuietM extT := by
  intro x xs M c fs M' e
  unfold extT at e
  split at e
  · split at e
    · split at e
      · split at e <;> cases e
      · exact q_ext _ _ _ _ _ _ e
      · cases e
    · cases e
  · cases e
theorem o_extT {X : Cx} : OpMR X "list.extend" extT := by
  intro ρ M H x xs v vs Q Rl dx dv h
  unfold extT at h
  split at h
  · rename_i l
    split at h
    · rename_i ds hm
      split at h
      · rename_i es
        obtain ⟨b, ys, rfl, hl2, h2, h3⟩ := cell_at Rl dx hm
        obtain ⟨w, rfl, dw⟩ := dens_one dv
        obtain ⟨a, zs, rfl, g1, g2⟩ := den_tup.mp dw
        split at h
        · rename_i hz
          have S : Stp ρ H ρ (upd H b (.lst (ys ++ zs))) := Stp.write hl2
          refine ⟨_, mt_extendT, b, a, ys, zs, rfl, rfl, h2, g1, by rw [← h3.length, ← g2.length]; exact Nat.le_of_lt (lim_lt hz), ?_⟩
          exact h ρ _ .non S (Rl.write hl2 ⟨b, ys ++ zs, hl2, upd_same, Dens.step Rl S _ _ (h3.append g2)⟩) (den_non.mpr rfl)
        · exact h.elim
      · exact o_ext ρ M H _ _ v vs Q Rl dx dv h
      · exact h.elim
    · exact h.elim
  · exact h.elim
end Mi

end

section
/-! Mi, part 39: dict.pop of a key. -/
namespace Mi
open PySem PySem.Spec PyProof.Rows L2
def dropM (kvs : List (Key × D)) (k : Key) : List (Key × D) := kvs.filter fun kv => decide (kv.1 ≠ k)
theorem denP_drop {K : PySem.W.Frag} {ρ : Rho} {H : Hp} {ps : List (Key × D)} {qs : List (Key × V)} (h : DenP K ρ H ps qs) (k : Key) : DenP K ρ H (dropM ps k) (dropK qs k) := by
  induction h with
  | nil => exact .nil
  | @cons p q ps qs r _ ih =>
    obtain ⟨p1, p2⟩ := p
    obtain ⟨q1, q2⟩ := q
    obtain ⟨e, dv⟩ := r
    simp only at e dv
    subst e
    unfold dropM dropK at ih ⊢
    rw [List.filter_cons, List.filter_cons]
    simp only
    split
    · exact .cons ⟨rfl, dv⟩ ih
    · exact ih
def mDPop (mo mk : ME) : ME := fun env M => (mo env M).bind fun x M1 => if isDct x M1 = true then (mk env M1).bind fun y M2 => match x with
    | .ref l => match M2[l]? with
      | some (.dct kvs) => match keyOf y with
        | some k => match (kvs.find? fun p => decide (p.1 = k)).map (·.2) with
          | some d => .ok d (M2.set l (.dct (dropM kvs k)))
          | none => .err
        | none => .err
      | _ => .err
    | _ => .err
  else .err
section
variable {X : Cx} {W : WX} {o e : Expr} {apos cpos : Pos} {mo mk : ME}
theorem s_dpop (ho : SE X W o mo) (hk : SE X W e mk) (m : M1 X o "pop" apos e cpos := by exact ⟨rfl, rfl, rfl, rfl⟩) : SE X W (.Call (.Attribute o "pop" apos) [e] [] cpos) (mDPop mo mk) := by
  refine pe_imp (pe_dpop1 ho hk m) fun σ H Q q => ?_
  refine tm_bind (f := fun x env M1 => if isDct x M1 = true then (mk env M1).bind fun y M2 => match x with
      | .ref l => match M2[l]? with
        | some (.dct kvs) => match keyOf y with
          | some k => match (kvs.find? fun p => decide (p.1 = k)).map (·.2) with
            | some d => .ok d (M2.set l (.dct (dropM kvs k)))
            | none => .err
          | none => .err
        | _ => .err
      | _ => .err
    else (.err : R D)) q fun x M1 ρ1 H1 v env R1 E1 dx h => ?_
  split at h
  rotate_left
  · exact h.elim
  rename_i hd
  obtain ⟨a, rfl, isd⟩ := isD_of R1 dx hd
  refine ⟨a, rfl, isd, ρ1, M1, env, R1, E1, h.bind fun y M2 ρ2 H2 w _ S2 R2 dy h2 => ?_⟩
  split at h2
  · rename_i l
    split at h2
    · rename_i kvs hm
      split at h2
      · rename_i k hk
        split at h2
        · rename_i d hg
          obtain ⟨p, u, ea, hl, ho⟩ := den_ref.mp (Den.step R1 S2 _ _ dx)
          cases ea
          obtain ⟨b, ks, h1, g2, g3⟩ := R2.obj l _ hm
          have hl2 := h1
          rw [hl] at h1
          cases h1
          have eb := ho b rfl
          subst eb
          obtain ⟨v, e2, dv⟩ := denP_get g3 hg
          have S : Stp ρ2 H2 ρ2 (upd H2 b (.dK (dropK ks k))) := Stp.write hl2
          exact ⟨ks, k, v, g2, keyOf_v hk dy, e2, h2 ρ2 _ v S (R2.write hl2 ⟨b, dropK ks k, hl2, upd_same, DenP.step R2 S (denP_drop g3 k)⟩) (Den.step R2 S _ _ dv)⟩
        · exact h2.elim
      · exact h2.elim
    · exact h2.elim
  · exact h2.elim
end
/-- x -= e, whole numbers -/
def cAugS (i : Nat) (m : ME) : MS := fun env M => match env[i]? with
  | some (some (.int k)) => andS (m env M) env fun d M1 => match d with
    | .int j => .nx (env.set i (some (.int (k - j)))) M1
    | _ => .err
  | _ => .err
section
variable {X : Cx} {W : WX}
theorem c_augS {i : Nat} {x : Str} {e : Expr} {pos pos' : Pos} {m : ME} (hN : X.N.Nodup) (h : SE X W e m) (hi : X.N[i]? = some x := by rfl) (hx : Loc X.env.scope x := by first | exact .inl rfl | exact .inr rfl)
    (hf : X.fn x = true ∨ X.env.scope.names.lookup x = some .local := by first | exact .inl rfl | exact .inr rfl | assumption) : SS X W (.AugAssign (.Name x pos') .Sub e pos) (cAugS i m) := by
  refine ps_imp (ps_aug hN hi hx h ip_sub hf) fun D σ H q => ?_
  obtain ⟨ρ, M, env, Rl, E, q⟩ := q
  unfold cAugS at q
  split at q
  · rename_i k ek
    obtain ⟨v, h1, h2⟩ := E.get i _ ek
    rw [den_int] at h2
    subst h2
    refine ⟨.int k, h1, ?_⟩
    refine andS_stp Rl E q fun d M1 ρ1 H1 v S R1 E1 dv q1 => ?_
    split at q1
    · rename_i j
      exact ⟨k, j, rfl, den_int.mp dv, q1 ρ1 H1 _ (Stp.refl (K := X.K) (M := M1)) R1 (E1.set i (den_int.mpr rfl))⟩
    · exact q1.elim
  · exact q.elim
end
end Mi

end

section
/-! Mi, part 40: dict(..) of pairs in a list, of a dict. -/
namespace Mi
open PySem PySem.Spec PyProof.Rows L2
def pairsOf : List D → Option (List (Key × D))
  | [] => some []
  | d :: ds => match d with
    | .tup [k, v] => match keyOf k with
      | some k => (pairsOf ds).map fun kvs => (k, v) :: kvs
      | none => none
    | _ => none
def dictD : OpN := fun xs M => match xs with
  | [.lst ds] => match pairsOf ds with
    | some kvs => .ok (.ref M.length) (M ++ [.dct (mergeM [] kvs)])
    | none => .err
  | [.ref l] => match M[l]? with
    | some (.dct kvs) => .ok (.ref M.length) (M ++ [.dct kvs])
    | some (.lst ds) => match pairsOf ds with
      | some kvs => .ok (.ref M.length) (M ++ [.dct (mergeM [] kvs)])
      | none => .err
    | _ => .err
  | _ => .err
theorem q_dict : QuietN dictD := by
  intro x M c fs M' e
  unfold dictD at e
  (repeat' split at e) <;> cases e
theorem pairsOf_v {K : PySem.W.Frag} {ρ : Rho} {H : Hp} : ∀ {ds : List D} {xs : List V} {kvs : List (Key × D)}, Dens K ρ H ds xs → pairsOf ds = some kvs → ∃ (ps : List Addr) (qs : List (Key × V)), xs = ps.map V.ref ∧ Paired (fun p kv => SqT K H p [kV kv.1, kv.2]) ps qs ∧ DenP K ρ H kvs qs
  | [], xs, kvs, h, e => by
    cases e
    rw [dens_nil] at h
    subst h
    exact ⟨[], [], rfl, .nil, .nil⟩
  | d :: ds, xs, kvs, h, e => by
    obtain ⟨v, r, rfl, h1, h2⟩ := dens_cons.mp h
    unfold pairsOf at e
    split at e
    · rename_i kd vd
      split at e
      · rename_i k hk
        obtain ⟨ms, e1, e2⟩ := Option.map_eq_some_iff.mp e
        subst e2
        obtain ⟨ps, qs, g1, g2, g3⟩ := pairsOf_v h2 e1
        obtain ⟨a, ys, rfl, hs, hd⟩ := den_tup.mp h1
        obtain ⟨v1, r1, rfl, d1, d2⟩ := dens_cons.mp hd
        obtain ⟨v2, rfl, d3⟩ := dens_one d2
        have ev := keyOf_v hk d1
        subst ev
        exact ⟨a :: ps, (k, v2) :: qs, by rw [g1]; rfl, .cons hs g2, .cons ⟨rfl, d3⟩ g3⟩
      · cases e
    · cases e
section
variable {X : Cx}
theorem newD {K : PySem.W.Frag} {ρ : Rho} {M : MH} {H : Hp} {W : Value → Option Addr → Hp → Prop} {Q : VK} {kvs : List (Key × D)} {qs : List (Key × V)} (Rl : Rel K ρ M H) (h : Ok K ρ H (DnD K) W Q (.ok (.ref M.length) (M ++ [.dct kvs]))) (e : DenP K ρ H kvs qs) : ∀ p, H p = none → Q (.ref p) (upd H p (.dK qs)) := fun p hp => by
  have S : Stp ρ H (ρ.add p) (upd H p (.dK qs)) := Stp.cell hp
  exact h _ _ _ S (Rl.cell hp ⟨p, qs, Rl.lastAt, upd_same, DenP.step Rl S e⟩) (den_ref.mpr ⟨p, some p, rfl, Rl.lastAt, fun b e => Option.some.inj e.symm⟩)
theorem o_dict (hc : X.calm = true) : OpNR X (.type "dict") dictD := by
  intro ρ M H xs vs Q Rl dv h
  unfold dictD at h
  split at h
  · obtain ⟨v, rfl, d⟩ := dens_one dv
    split at h
    · rename_i kvs e
      obtain ⟨a, ys, rfl, hs, hd⟩ := den_lst.mp d
      obtain ⟨ps, qs, g1, g2, g3⟩ := pairsOf_v hd e
      exact ⟨_, call_dictP hc, a, ps, qs, rfl, by rw [← g1]; exact hs.sq, g2, newD Rl h (denP_merge g3 .nil)⟩
    · exact h.elim
  · rename_i l
    obtain ⟨v, rfl, d⟩ := dens_one dv
    split at h
    · rename_i kvs hm
      obtain ⟨p, u, rfl, hl, ho⟩ := den_ref.mp d
      obtain ⟨b, ks, h1, h2, h3⟩ := Rl.obj l _ hm
      rw [hl] at h1
      cases h1
      have e := ho b rfl
      subst e
      exact ⟨_, call_dictD, b, ks, rfl, .inl h2, newD Rl h h3⟩
    · rename_i ds hm
      split at h
      · rename_i kvs e
        obtain ⟨b, ys, rfl, hl2, h2, h3⟩ := cell_at Rl d hm
        obtain ⟨ps, qs, g1, g2, g3⟩ := pairsOf_v h3 e
        exact ⟨_, call_dictP hc, b, ps, qs, rfl, by rw [← g1]; exact SqL.of h2, g2, newD Rl h (denP_merge g3 .nil)⟩
      · exact h.elim
    · exact h.elim
  · exact h.elim
end
end Mi

end

section
/-! Mi, part 41: sorted of texts, of a dict's keys. -/
namespace Mi
open PySem PySem.Spec PyProof.Rows L2
def leS (a b : Str) : Bool := !ltCps b.cps.toList a.cps.toList
theorem leS_iff {a b : Str} : leS a b = true ↔ a.cps.toList ≤ b.cps.toList := by
  unfold leS
  rw [ltCps_eq, Bool.not_eq_true', decide_eq_false_iff_not, List.not_lt]
theorem leS_trans {a b c : Str} (h : leS a b = true) (g : leS b c = true) : leS a c = true := leS_iff.mpr (List.le_trans (leS_iff.mp h) (leS_iff.mp g))
theorem leS_total (a b : Str) : leS a b = true ∨ leS b a = true := by
  rcases List.le_total a.cps.toList b.cps.toList with h | h
  · exact .inl (leS_iff.mpr h)
  · exact .inr (leS_iff.mpr h)
theorem leS_anti {a b : Str} (h : leS a b = true) (g : leS b a = true) : a = b := by
  have e := List.le_antisymm (leS_iff.mp h) (leS_iff.mp g)
  obtain ⟨a⟩ := a
  obtain ⟨b⟩ := b
  simp only at e
  congr 1
  exact Array.toList_inj.mp e
def insS (x : Str) : List Str → List Str
  | [] => [x]
  | y :: r => if leS x y then x :: y :: r else y :: insS x r
def sortS : List Str → List Str
  | [] => []
  | x :: r => insS x (sortS r)
theorem insS_perm (x : Str) : ∀ l : List Str, (insS x l).Perm (x :: l)
  | [] => .refl _
  | y :: r => by
    unfold insS
    split
    · exact .refl _
    · exact ((insS_perm x r).cons y).trans (.swap x y r)
theorem sortS_perm : ∀ l : List Str, (sortS l).Perm l
  | [] => .refl _
  | x :: r => (insS_perm x (sortS r)).trans ((sortS_perm r).cons x)
theorem insS_pair (x : Str) : ∀ l : List Str, l.Pairwise (fun a b => leS a b = true) → (insS x l).Pairwise (fun a b => leS a b = true)
  | [], _ => by unfold insS; simp
  | y :: r, h => by
    unfold insS
    obtain ⟨h1, h2⟩ := List.pairwise_cons.mp h
    split
    · rename_i e
      refine List.pairwise_cons.mpr ⟨fun z hz => ?_, h⟩
      rcases List.mem_cons.mp hz with rfl | hz
      · exact e
      · exact leS_trans e (h1 z hz)
    · rename_i e
      refine List.pairwise_cons.mpr ⟨fun z hz => ?_, insS_pair x r h2⟩
      rcases List.mem_cons.mp ((insS_perm x r).mem_iff.mp hz) with rfl | hz
      · rcases leS_total z y with q | q
        · exact absurd q (by simpa using e)
        · exact q
      · exact h1 z hz
theorem sortS_pair : ∀ l : List Str, (sortS l).Pairwise (fun a b => leS a b = true)
  | [] => .nil
  | x :: r => insS_pair x _ (sortS_pair r)
theorem rising_pair : ∀ (p : Str) (l : List Str), risingS p l = true → (p :: l).Pairwise (fun a b => leS a b = true)
  | p, [], _ => by simp
  | p, x :: r, h => by
    have h' : (!ltCps x.cps.toList p.cps.toList && risingS x r) = true := h
    rw [Bool.and_eq_true] at h'
    have ih := rising_pair x r h'.2
    have e : leS p x = true := h'.1
    refine List.pairwise_cons.mpr ⟨fun z hz => ?_, ih⟩
    rcases List.mem_cons.mp hz with rfl | hz
    · exact e
    · exact leS_trans e ((List.pairwise_cons.mp ih).1 z hz)
theorem sorted_pair (l : List Str) (h : sortedS l = true) : l.Pairwise (fun a b => leS a b = true) := by
  cases l with
  | nil => exact .nil
  | cons x r => exact rising_pair x r h
/-- there is just one way to sort -/
theorem sortS_one {ys ks : List Str} (h : ys.Perm ks) (s : sortedS ys = true) : ys = sortS ks :=
  List.Perm.eq_of_pairwise (le := fun a b => leS a b = true) (fun _ _ _ _ => leS_anti) (sorted_pair ys s) (sortS_pair ks) (h.trans (sortS_perm ks).symm)
def strKeys : List Key → Option (List Str)
  | [] => some []
  | .inr x :: ks => (strKeys ks).map fun xs => x :: xs
  | .inl _ :: _ => none
theorem strKeys_eq : ∀ {ks : List Key} {xs : List Str}, strKeys ks = some xs → ks = xs.map Sum.inr
  | [], xs, e => by cases e; rfl
  | .inl _ :: ks, xs, e => by cases e
  | .inr x :: ks, xs, e => by
    obtain ⟨ms, e1, e2⟩ := Option.map_eq_some_iff.mp (show (strKeys ks).map (x :: ·) = some xs from e)
    subst e2
    rw [strKeys_eq e1]
    rfl
def sortedSD : OpN := fun xs M => match xs with
  | [.lst ds] => match strsD ds with
    | some ks => if ks.length < 64 then .ok (.lst ((sortS ks).map .str)) M else .err
    | none => .err
  | [.dct keys _] => match strKeys keys with
    | some ks => if ks.length < 64 then .ok (.lst ((sortS ks).map .str)) M else .err
    | none => .err
  | [.ref l] => match M[l]? with
    | some (.dct kvs) => match strKeys (kvs.map (·.1)) with
      | some ks => if ks.length < 64 then .ok (.lst ((sortS ks).map .str)) M else .err
      | none => .err
    | _ => .err
  | _ => .err
theorem q_sortedS : QuietN sortedSD := by
  intro x M c fs M' e
  unfold sortedSD at e
  (repeat' split at e) <;> cases e
theorem dens_strS {K : PySem.W.Frag} {ρ : Rho} {H : Hp} : ∀ (xs : List Str), Dens K ρ H (xs.map D.str) (xs.map V.str)
  | [] => dens_nil.mpr rfl
  | x :: xs => dens_cons.mpr ⟨_, _, rfl, den_str.mpr rfl, dens_strS xs⟩
theorem dens_strs_inv {K : PySem.W.Frag} {ρ : Rho} {H : Hp} : ∀ {xs : List Str} {vs : List V}, Dens K ρ H (xs.map D.str) vs → vs = xs.map V.str
  | [], vs, h => dens_nil.mp h
  | x :: xs, vs, h => by
    obtain ⟨v, r, rfl, h1, h2⟩ := dens_cons.mp h
    rw [den_str.mp h1, dens_strs_inv h2]
    rfl
section
variable {X : Cx}
theorem o_sortedS (hc : X.calm = true) : OpNR X (.builtin "sorted") sortedSD := by
  intro ρ M H xs vs Q Rl dv h
  unfold sortedSD at h
  split at h
  · obtain ⟨v, rfl, d⟩ := dens_one dv
    split at h
    · rename_i ks e
      split at h
      · rename_i hz
        obtain ⟨a, ys, rfl, hs, hd⟩ := den_lst.mp d
        rw [strsD_eq e] at hd
        have ey := dens_strs_inv hd
        subst ey
        refine ⟨_, cr_sortedS, a, ks, rfl, hs.sq, hz, fun ys p hp hs' hn => ?_⟩
        have e1 := sortS_one hp hs'
        subst e1
        exact newL Rl h (dens_strS _) p hn
      · exact h.elim
    · exact h.elim
  · obtain ⟨v, rfl, d⟩ := dens_one dv
    split at h
    · rename_i ks e
      split at h
      · rename_i hz
        obtain ⟨a, kvs, rfl, hH, _, ek, hd⟩ := den_dct.mp d; have hH := hH.rd
        rw [strKeys_eq e] at ek
        refine ⟨_, call_sortedD hc, a, kvs, ks, rfl, hH, ek, hz, fun ys p hp hs' hn => ?_⟩
        have e1 := sortS_one hp hs'
        subst e1
        exact newL Rl h (dens_strS _) p hn
      · exact h.elim
    · exact h.elim
  · rename_i l
    obtain ⟨v, rfl, d⟩ := dens_one dv
    split at h
    · rename_i kvs hm
      split at h
      · rename_i ks e
        split at h
        · rename_i hz
          obtain ⟨p0, u, rfl, hl, ho⟩ := den_ref.mp d
          obtain ⟨b, kvs2, h1, h2, h3⟩ := Rl.obj l _ hm
          rw [hl] at h1
          cases h1
          have eb := ho b rfl
          subst eb
          refine ⟨_, call_sortedD hc, b, kvs2, ks, rfl, .inl h2, by rw [(denP_split h3).1, strKeys_eq e], hz, fun ys p hp hs' hn => ?_⟩
          have e1 := sortS_one hp hs'
          subst e1
          exact newL Rl h (dens_strS _) p hn
        · exact h.elim
      · exact h.elim
    · exact h.elim
  · exact h.elim
end
end Mi

end

section
/-! Mi, part 42: a dict beside a thing of another kind is not alike. -/
namespace PySem.SeqAt
open AutoSeq1 (wpAny_loadPart')
open MeetsSeq MeetsSeq2 MeetsSeq3 SeqRoads2
section
variable {prog : Program} {w : World} {A : Around} {E : Value → Shared → Prop} {s : Shared}
theorem dict_eq_declines {a : Addr} {x : Value} {T : String} : Meets (Builtin.«dict.__eq__» ⟨[.ref a, x], []⟩) (fun _ R s => s.TypeIs (.ref a) "dict" ∧ s.TypeIs x T ∧ isSubtype (.type T) (.type "dict") = pure false ∧ R (.ok (.ret .notImplemented)) s) :=
  .of_wp fun prog w A R s h => by
    obtain ⟨ha, hx, hs, h⟩ := h
    show wpAny _ _ (Builtin.Dict.dictSlotArgs "__eq__" ⟨[.ref a, x], []⟩ >>= _) _ _ s
    refine wpAny_bind ?_
    unfold Builtin.Dict.dictSlotArgs
    refine wpAny_bind (wpAny_notOrdered_dict ha ?_)
    show wpAny _ _ (pure (Value.ref a, x)) _ _ s
    refine wpAny_pure ?_
    refine wpAny_bind (wpAny_isInstance (T := T) hx hs ?_)
    simp only [Bool.not_false, if_true]
    wp_walk
    exact ⟨_, rfl, h⟩
theorem int_eq_declines_dict (b : Int) (u : Tok) (l : Addr) (o : Obj) :
    Meets (Builtin.«int.__eq__» ⟨[.int b u, .ref l], []⟩) (fun _ R s => s.heap.get? l = some o ∧ o.cls = .type "dict" ∧ (∃ es ep, o.data = .dict es ep) ∧ R (.ok (.ret .notImplemented)) s) :=
  .of_wp fun prog w A R s h => by
    obtain ⟨hp, g, d, tk, os⟩ := s; obtain ⟨hl, hc, ⟨es, ep, hd⟩, h⟩ := h
    obtain ⟨cls, dd, data, sl⟩ := o
    simp only at hc hd
    subst hc hd
    wp_walk using wpAny_loadPart' hl, wpAny_load hl
    exact ⟨_, rfl, h⟩
theorem str_eq_declines_dict (b : Str) (u : Tok) (l : Addr) (o : Obj) :
    Meets (Builtin.«str.__eq__» ⟨[.str b u, .ref l], []⟩) (fun _ R s => s.heap.get? l = some o ∧ o.cls = .type "dict" ∧ (∃ es ep, o.data = .dict es ep) ∧ R (.ok (.ret .notImplemented)) s) :=
  .of_wp fun prog w A R s h => by
    obtain ⟨hp, g, d, tk, os⟩ := s; obtain ⟨hl, hc, ⟨es, ep, hd⟩, h⟩ := h
    obtain ⟨cls, dd, data, sl⟩ := o
    simp only at hc hd
    subst hc hd
    wp_walk using wpAny_loadPart' hl, wpAny_load hl
    exact ⟨_, rfl, h⟩
theorem int_eq_declines_dictB (b : Bool) (l : Addr) (o : Obj) :
    Meets (Builtin.«int.__eq__» ⟨[.bool b, .ref l], []⟩) (fun _ R s => s.heap.get? l = some o ∧ o.cls = .type "dict" ∧ (∃ es ep, o.data = .dict es ep) ∧ R (.ok (.ret .notImplemented)) s) :=
  .of_wp fun prog w A R s h => by
    obtain ⟨hp, g, d, tk, os⟩ := s; obtain ⟨hl, hc, ⟨es, ep, hd⟩, h⟩ := h
    obtain ⟨cls, dd, data, sl⟩ := o
    simp only at hc hd
    subst hc hd
    wp_walk using wpAny_loadPart' hl, wpAny_load hl
    exact ⟨_, rfl, h⟩
theorem tuple_eq_declines_dict (l b : Addr) (items : Array Value) (n : Nat) (dd : Option Addr) (sl : Array (Option Value)) (o : Obj) :
    Meets (Builtin.«tuple.__eq__» ⟨[.ref l, .ref b], []⟩) (fun _ R s => s.heap.get? l = some { cls := .type "tuple", dict := dd, data := .seq items n, slots := sl } ∧ s.heap.get? b = some o ∧ o.cls = .type "dict" ∧ (∃ es ep, o.data = .dict es ep) ∧ R (.ok (.ret .notImplemented)) s) :=
  .of_wp fun prog w A R s h => by
    obtain ⟨hp, g, d, tk, os⟩ := s; obtain ⟨hl, hb, hc, ⟨es, ep, hd⟩, h⟩ := h
    obtain ⟨cls, dd, data, sl⟩ := o
    simp only at hc hd
    subst hc hd
    have f1 := F.sub_dict_tuple
    wp_walk using wpAny_loadPart' hl, wpAny_loadPart' hb
    exact ⟨_, rfl, h⟩
theorem list_eq_declines_dict (l b : Addr) (items : Array Value) (n : Nat) (dd : Option Addr) (sl : Array (Option Value)) (o : Obj) :
    Meets (Builtin.«list.__eq__» ⟨[.ref l, .ref b], []⟩) (fun _ R s => s.heap.get? l = some { cls := .type "list", dict := dd, data := .seq items n, slots := sl } ∧ s.heap.get? b = some o ∧ o.cls = .type "dict" ∧ (∃ es ep, o.data = .dict es ep) ∧ R (.ok (.ret .notImplemented)) s) :=
  .of_wp fun prog w A R s h => by
    obtain ⟨hp, g, d, tk, os⟩ := s; obtain ⟨hl, hb, hc, ⟨es, ep, hd⟩, h⟩ := h
    obtain ⟨cls, dd, data, sl⟩ := o
    simp only at hc hd
    subst hc hd
    have f1 := F.sub_dict_list
    wp_walk using wpAny_loadPart' hl, wpAny_loadPart' hb
    exact ⟨_, rfl, h⟩
/-- at a: a dict -/
def DObj (s : Shared) (a : Addr) : Prop := ∃ o, s.heap.get? a = some o ∧ o.cls = .type "dict" ∧ ∃ es ep, o.data = .dict es ep
theorem DObj.ty {a : Addr} (h : DObj s a) : s.TypeIs (.ref a) "dict" := by obtain ⟨o, e, c, _⟩ := h; exact ⟨o, e, c⟩
theorem sameD {a b : Addr} (hne : a ≠ b) (ha : DObj s a) (hb : ∃ o, s.heap.get? b = some o) {Q : Bool → Shared → Prop} (h : Q false s) : wpAny (model prog w) A (isSame (.ref a) (.ref b)) Q E s := by
  obtain ⟨o, e, c, _⟩ := ha; obtain ⟨u, k⟩ := hb
  exact wpAny_isSame_ref_other hne e k (by rw [c]; simp) h
theorem sameD' {a b : Addr} (hne : a ≠ b) (ha : ∃ o, s.heap.get? a = some o) (hb : DObj s b) {Q : Bool → Shared → Prop} (h : Q false s) : wpAny (model prog w) A (isSame (.ref a) (.ref b)) Q E s := by
  obtain ⟨o, e, c, _⟩ := hb; obtain ⟨u, k⟩ := ha
  exact wpAny_isSame_ref_other' hne k e (by rw [c]; simp) h
theorem RcAt.dict_none {l : Addr} (hl : DObj s l) (hu : A.units < cLine) : RcAt A s (.ref l) .none false := fun prog w E Q h => by
  have tl := hl.ty; obtain ⟨o, ho, hc, hd⟩ := hl; exact rc_eq_decline_or (k := false) tl rfl (by decide) F.sub_NoneType_dict F.slot_dict_eq F.slot_NoneType_eq_refl (fun _ hq => call_meets F.slot_dict_eq tl F.entry_dict_eq (F.args_dict_eq_2 _ _) (dict_eq_declines (T := "NoneType")) ⟨tl, rfl, F.sub_NoneType_dict, hq⟩) (fun _ hq => call_gives F.slot_NoneType_eq_refl rfl F.entry_NoneType_eq (F.args_NoneType_eq_2 _ _) (NoneType___eq___none_ref_0 l) hq) (fun _ hq => wpAny_of_eq (rfl : isSame (.ref l) .none = pure false) hq) (.inr hu) h
theorem RcAt.none_dict {l : Addr} (hl : DObj s l) (hu : A.units < cLine) : RcAt A s .none (.ref l) false := fun prog w E Q h => by
  have tl := hl.ty; obtain ⟨o, ho, hc, hd⟩ := hl; exact rc_eq_decline_or (k := false) rfl tl (by decide) F.sub_dict_NoneType F.slot_NoneType_eq F.slot_dict_eq_refl (fun _ hq => call_gives F.slot_NoneType_eq rfl F.entry_NoneType_eq (F.args_NoneType_eq_2 _ _) (NoneType___eq___none_ref_0 l) hq) (fun _ hq => call_meets F.slot_dict_eq_refl tl F.entry_dict_eq (F.args_dict_eq_2 _ _) (dict_eq_declines (T := "NoneType")) ⟨tl, rfl, F.sub_NoneType_dict, hq⟩) (fun _ hq => wpAny_of_eq (rfl : isSame .none (.ref l) = pure false) hq) (.inr hu) h
theorem EqAt.dict_none {l : Addr} (hl : DObj s l) (hu : A.units < cLine) : EqAt A s (.ref l) .none false := fun prog w E Q hq => by unfold eqBool; exact wpAny_holding (wpAny_ite_split (fun hab => absurd (eq_of_beq hab) nofun) fun _ => wpAny_bind (RcAt.dict_none  hl hu prog w E _ (wpAny_truthy_bool hq)))
theorem EqAt.none_dict {l : Addr} (hl : DObj s l) (hu : A.units < cLine) : EqAt A s .none (.ref l) false := fun prog w E Q hq => by unfold eqBool; exact wpAny_holding (wpAny_ite_split (fun hab => absurd (eq_of_beq hab) nofun) fun _ => wpAny_bind (RcAt.none_dict  hl hu prog w E _ (wpAny_truthy_bool hq)))
theorem RcAt.dict_bool {l : Addr} (b : Bool) (hl : DObj s l) (hu : A.units < cLine) : RcAt A s (.ref l) (.bool b) false := fun prog w E Q h => by
  have tl := hl.ty; obtain ⟨o, ho, hc, hd⟩ := hl; exact rc_eq_decline_or (k := false) tl rfl (by decide) F.sub_bool_dict F.slot_dict_eq F.slot_bool_eq_refl (fun _ hq => call_meets F.slot_dict_eq tl F.entry_dict_eq (F.args_dict_eq_2 _ _) (dict_eq_declines (T := "bool")) ⟨tl, rfl, F.sub_bool_dict, hq⟩) (fun _ hq => call_meets F.slot_bool_eq_refl rfl F.entry_int_eq (F.args_int_eq_2 _ _) (int_eq_declines_dictB b l o) ⟨ho, hc, hd, hq⟩) (fun _ hq => wpAny_of_eq (rfl : isSame (.ref l) (.bool b) = pure false) hq) (.inr hu) h
theorem RcAt.bool_dict {l : Addr} (b : Bool) (hl : DObj s l) (hu : A.units < cLine) : RcAt A s (.bool b) (.ref l) false := fun prog w E Q h => by
  have tl := hl.ty; obtain ⟨o, ho, hc, hd⟩ := hl; exact rc_eq_decline_or (k := false) rfl tl (by decide) F.sub_dict_bool F.slot_bool_eq F.slot_dict_eq_refl (fun _ hq => call_meets F.slot_bool_eq rfl F.entry_int_eq (F.args_int_eq_2 _ _) (int_eq_declines_dictB b l o) ⟨ho, hc, hd, hq⟩) (fun _ hq => call_meets F.slot_dict_eq_refl tl F.entry_dict_eq (F.args_dict_eq_2 _ _) (dict_eq_declines (T := "bool")) ⟨tl, rfl, F.sub_bool_dict, hq⟩) (fun _ hq => wpAny_of_eq (rfl : isSame (.bool b) (.ref l) = pure false) hq) (.inr hu) h
theorem EqAt.dict_bool {l : Addr} (b : Bool) (hl : DObj s l) (hu : A.units < cLine) : EqAt A s (.ref l) (.bool b) false := fun prog w E Q hq => by unfold eqBool; exact wpAny_holding (wpAny_ite_split (fun hab => absurd (eq_of_beq hab) nofun) fun _ => wpAny_bind (RcAt.dict_bool b hl hu prog w E _ (wpAny_truthy_bool hq)))
theorem EqAt.bool_dict {l : Addr} (b : Bool) (hl : DObj s l) (hu : A.units < cLine) : EqAt A s (.bool b) (.ref l) false := fun prog w E Q hq => by unfold eqBool; exact wpAny_holding (wpAny_ite_split (fun hab => absurd (eq_of_beq hab) nofun) fun _ => wpAny_bind (RcAt.bool_dict b hl hu prog w E _ (wpAny_truthy_bool hq)))
theorem RcAt.dict_int {l : Addr} (b : Int) (u : Tok) (hl : DObj s l) (hu : A.units < cLine) : RcAt A s (.ref l) (.int b u) false := fun prog w E Q h => by
  have tl := hl.ty; obtain ⟨o, ho, hc, hd⟩ := hl; exact rc_eq_decline_or (k := false) tl (typeIs_int s b u) (by decide) F.sub_int_dict F.slot_dict_eq F.slot_int_eq_refl (fun _ hq => call_meets F.slot_dict_eq tl F.entry_dict_eq (F.args_dict_eq_2 _ _) (dict_eq_declines (T := "int")) ⟨tl, (typeIs_int s b u), F.sub_int_dict, hq⟩) (fun _ hq => call_meets F.slot_int_eq_refl (typeIs_int s b u) F.entry_int_eq (F.args_int_eq_2 _ _) (int_eq_declines_dict b u l o) ⟨ho, hc, hd, hq⟩) (fun _ hq => wpAny_of_eq (rfl : isSame (.ref l) (.int b u) = pure false) hq) (.inr hu) h
theorem RcAt.int_dict {l : Addr} (b : Int) (u : Tok) (hl : DObj s l) (hu : A.units < cLine) : RcAt A s (.int b u) (.ref l) false := fun prog w E Q h => by
  have tl := hl.ty; obtain ⟨o, ho, hc, hd⟩ := hl; exact rc_eq_decline_or (k := false) (typeIs_int s b u) tl (by decide) F.sub_dict_int F.slot_int_eq F.slot_dict_eq_refl (fun _ hq => call_meets F.slot_int_eq (typeIs_int s b u) F.entry_int_eq (F.args_int_eq_2 _ _) (int_eq_declines_dict b u l o) ⟨ho, hc, hd, hq⟩) (fun _ hq => call_meets F.slot_dict_eq_refl tl F.entry_dict_eq (F.args_dict_eq_2 _ _) (dict_eq_declines (T := "int")) ⟨tl, (typeIs_int s b u), F.sub_int_dict, hq⟩) (fun _ hq => wpAny_of_eq (rfl : isSame (.int b u) (.ref l) = pure false) hq) (.inr hu) h
theorem EqAt.dict_int {l : Addr} (b : Int) (u : Tok) (hl : DObj s l) (hu : A.units < cLine) : EqAt A s (.ref l) (.int b u) false := fun prog w E Q hq => by unfold eqBool; exact wpAny_holding (wpAny_ite_split (fun hab => absurd (eq_of_beq hab) nofun) fun _ => wpAny_bind (RcAt.dict_int b u hl hu prog w E _ (wpAny_truthy_bool hq)))
theorem EqAt.int_dict {l : Addr} (b : Int) (u : Tok) (hl : DObj s l) (hu : A.units < cLine) : EqAt A s (.int b u) (.ref l) false := fun prog w E Q hq => by unfold eqBool; exact wpAny_holding (wpAny_ite_split (fun hab => absurd (eq_of_beq hab) nofun) fun _ => wpAny_bind (RcAt.int_dict b u hl hu prog w E _ (wpAny_truthy_bool hq)))
theorem RcAt.dict_str {l : Addr} (b : Str) (u : Tok) (hl : DObj s l) (hu : A.units < cLine) : RcAt A s (.ref l) (.str b u) false := fun prog w E Q h => by
  have tl := hl.ty; obtain ⟨o, ho, hc, hd⟩ := hl; exact rc_eq_decline_or (k := false) tl (typeIs_str s b u) (by decide) F.sub_str_dict F.slot_dict_eq F.slot_str_eq_refl (fun _ hq => call_meets F.slot_dict_eq tl F.entry_dict_eq (F.args_dict_eq_2 _ _) (dict_eq_declines (T := "str")) ⟨tl, (typeIs_str s b u), F.sub_str_dict, hq⟩) (fun _ hq => call_meets F.slot_str_eq_refl (typeIs_str s b u) F.entry_str_eq (F.args_str_eq_2 _ _) (str_eq_declines_dict b u l o) ⟨ho, hc, hd, hq⟩) (fun _ hq => wpAny_of_eq (rfl : isSame (.ref l) (.str b u) = pure false) hq) (.inr hu) h
theorem RcAt.str_dict {l : Addr} (b : Str) (u : Tok) (hl : DObj s l) (hu : A.units < cLine) : RcAt A s (.str b u) (.ref l) false := fun prog w E Q h => by
  have tl := hl.ty; obtain ⟨o, ho, hc, hd⟩ := hl; exact rc_eq_decline_or (k := false) (typeIs_str s b u) tl (by decide) F.sub_dict_str F.slot_str_eq F.slot_dict_eq_refl (fun _ hq => call_meets F.slot_str_eq (typeIs_str s b u) F.entry_str_eq (F.args_str_eq_2 _ _) (str_eq_declines_dict b u l o) ⟨ho, hc, hd, hq⟩) (fun _ hq => call_meets F.slot_dict_eq_refl tl F.entry_dict_eq (F.args_dict_eq_2 _ _) (dict_eq_declines (T := "str")) ⟨tl, (typeIs_str s b u), F.sub_str_dict, hq⟩) (fun _ hq => wpAny_of_eq (rfl : isSame (.str b u) (.ref l) = pure false) hq) (.inr hu) h
theorem EqAt.dict_str {l : Addr} (b : Str) (u : Tok) (hl : DObj s l) (hu : A.units < cLine) : EqAt A s (.ref l) (.str b u) false := fun prog w E Q hq => by unfold eqBool; exact wpAny_holding (wpAny_ite_split (fun hab => absurd (eq_of_beq hab) nofun) fun _ => wpAny_bind (RcAt.dict_str b u hl hu prog w E _ (wpAny_truthy_bool hq)))
theorem EqAt.str_dict {l : Addr} (b : Str) (u : Tok) (hl : DObj s l) (hu : A.units < cLine) : EqAt A s (.str b u) (.ref l) false := fun prog w E Q hq => by unfold eqBool; exact wpAny_holding (wpAny_ite_split (fun hab => absurd (eq_of_beq hab) nofun) fun _ => wpAny_bind (RcAt.str_dict b u hl hu prog w E _ (wpAny_truthy_bool hq)))
theorem ne_dict_tuple {l b : Addr} {items : Array Value} (hl : DObj s l) (hb : s.heap.IsTuple b items) : l ≠ b := fun e => by
  subst e; obtain ⟨o, ho, hc, _⟩ := hl; obtain ⟨u, hu, hk, _⟩ := hb
  rw [ho] at hu; cases hu; rw [hc] at hk; exact absurd hk (by simp)
theorem RcAt.dict_tuple {l b : Addr} {items : Array Value} (hl : DObj s l) (hb : s.heap.IsTuple b items) (hu : A.units < cLine) : RcAt A s (.ref l) (.ref b) false := fun prog w E Q h => by
  have hne := ne_dict_tuple hl hb; have hl0 := hl; have tl := hl.ty; obtain ⟨o, ho, hc, hd⟩ := hl; obtain ⟨⟨cls, dd, data, sl⟩, ho2, hc2, n, hd2⟩ := id hb; simp only at hc2 hd2; subst hc2 hd2
  exact rc_eq_decline_or (k := false) tl ⟨_, ho2, rfl⟩ (by decide) F.sub_tuple_dict F.slot_dict_eq F.slot_tuple_eq_refl (fun _ hq => call_meets F.slot_dict_eq tl F.entry_dict_eq (F.args_dict_eq_2 _ _) (dict_eq_declines (T := "tuple")) ⟨tl, ⟨_, ho2, rfl⟩, F.sub_tuple_dict, hq⟩) (fun _ hq => call_meets F.slot_tuple_eq_refl ⟨_, ho2, rfl⟩ F.entry_tuple_eq (F.args_tuple_eq_2 _ _) (tuple_eq_declines_dict b l items n dd sl o) ⟨ho2, ho, hc, hd, hq⟩) (fun _ hq => sameD hne hl0 ⟨_, ho2⟩ hq) (.inr hu) h
theorem EqAt.dict_tuple {l b : Addr} {items : Array Value} (hl : DObj s l) (hb : s.heap.IsTuple b items) (hu : A.units < cLine) : EqAt A s (.ref l) (.ref b) false := .of_refs (ne_dict_tuple hl hb) (RcAt.dict_tuple hl hb hu)
theorem RcAt.tuple_dict {l b : Addr} {items : Array Value} (hb : s.heap.IsTuple b items) (hl : DObj s l) (hu : A.units < cLine) : RcAt A s (.ref b) (.ref l) false := fun prog w E Q h => by
  have hne := (ne_dict_tuple hl hb).symm; have hl0 := hl; have tl := hl.ty; obtain ⟨o, ho, hc, hd⟩ := hl; obtain ⟨⟨cls, dd, data, sl⟩, ho2, hc2, n, hd2⟩ := id hb; simp only at hc2 hd2; subst hc2 hd2
  exact rc_eq_decline_or (k := false) ⟨_, ho2, rfl⟩ tl (by decide) F.sub_dict_tuple F.slot_tuple_eq F.slot_dict_eq_refl (fun _ hq => call_meets F.slot_tuple_eq ⟨_, ho2, rfl⟩ F.entry_tuple_eq (F.args_tuple_eq_2 _ _) (tuple_eq_declines_dict b l items n dd sl o) ⟨ho2, ho, hc, hd, hq⟩) (fun _ hq => call_meets F.slot_dict_eq_refl tl F.entry_dict_eq (F.args_dict_eq_2 _ _) (dict_eq_declines (T := "tuple")) ⟨tl, ⟨_, ho2, rfl⟩, F.sub_tuple_dict, hq⟩) (fun _ hq => sameD' hne ⟨_, ho2⟩ hl0 hq) (.inr hu) h
theorem EqAt.tuple_dict {l b : Addr} {items : Array Value} (hb : s.heap.IsTuple b items) (hl : DObj s l) (hu : A.units < cLine) : EqAt A s (.ref b) (.ref l) false := .of_refs (ne_dict_tuple hl hb).symm (RcAt.tuple_dict hb hl hu)
theorem ne_dict_list {l b : Addr} {items : Array Value} (hl : DObj s l) (hb : s.heap.IsList b items) : l ≠ b := fun e => by
  subst e; obtain ⟨o, ho, hc, _⟩ := hl; obtain ⟨u, hu, hk, _⟩ := hb
  rw [ho] at hu; cases hu; rw [hc] at hk; exact absurd hk (by simp)
theorem RcAt.dict_list {l b : Addr} {items : Array Value} (hl : DObj s l) (hb : s.heap.IsList b items) (hu : A.units < cLine) : RcAt A s (.ref l) (.ref b) false := fun prog w E Q h => by
  have hne := ne_dict_list hl hb; have hl0 := hl; have tl := hl.ty; obtain ⟨o, ho, hc, hd⟩ := hl; obtain ⟨⟨cls, dd, data, sl⟩, ho2, hc2, n, hd2⟩ := id hb; simp only at hc2 hd2; subst hc2 hd2
  exact rc_eq_decline_or (k := false) tl ⟨_, ho2, rfl⟩ (by decide) F.sub_list_dict F.slot_dict_eq F.slot_list_eq_refl (fun _ hq => call_meets F.slot_dict_eq tl F.entry_dict_eq (F.args_dict_eq_2 _ _) (dict_eq_declines (T := "list")) ⟨tl, ⟨_, ho2, rfl⟩, F.sub_list_dict, hq⟩) (fun _ hq => call_meets F.slot_list_eq_refl ⟨_, ho2, rfl⟩ F.entry_list_eq (F.args_list_eq_2 _ _) (list_eq_declines_dict b l items n dd sl o) ⟨ho2, ho, hc, hd, hq⟩) (fun _ hq => sameD hne hl0 ⟨_, ho2⟩ hq) (.inr hu) h
theorem EqAt.dict_list {l b : Addr} {items : Array Value} (hl : DObj s l) (hb : s.heap.IsList b items) (hu : A.units < cLine) : EqAt A s (.ref l) (.ref b) false := .of_refs (ne_dict_list hl hb) (RcAt.dict_list hl hb hu)
theorem RcAt.list_dict {l b : Addr} {items : Array Value} (hb : s.heap.IsList b items) (hl : DObj s l) (hu : A.units < cLine) : RcAt A s (.ref b) (.ref l) false := fun prog w E Q h => by
  have hne := (ne_dict_list hl hb).symm; have hl0 := hl; have tl := hl.ty; obtain ⟨o, ho, hc, hd⟩ := hl; obtain ⟨⟨cls, dd, data, sl⟩, ho2, hc2, n, hd2⟩ := id hb; simp only at hc2 hd2; subst hc2 hd2
  exact rc_eq_decline_or (k := false) ⟨_, ho2, rfl⟩ tl (by decide) F.sub_dict_list F.slot_list_eq F.slot_dict_eq_refl (fun _ hq => call_meets F.slot_list_eq ⟨_, ho2, rfl⟩ F.entry_list_eq (F.args_list_eq_2 _ _) (list_eq_declines_dict b l items n dd sl o) ⟨ho2, ho, hc, hd, hq⟩) (fun _ hq => call_meets F.slot_dict_eq_refl tl F.entry_dict_eq (F.args_dict_eq_2 _ _) (dict_eq_declines (T := "list")) ⟨tl, ⟨_, ho2, rfl⟩, F.sub_list_dict, hq⟩) (fun _ hq => sameD' hne ⟨_, ho2⟩ hl0 hq) (.inr hu) h
theorem EqAt.list_dict {l b : Addr} {items : Array Value} (hb : s.heap.IsList b items) (hl : DObj s l) (hu : A.units < cLine) : EqAt A s (.ref b) (.ref l) false := .of_refs (ne_dict_list hl hb).symm (RcAt.list_dict hb hl hu)
end
end PySem.SeqAt

end

section
/-! Mi, part 43: `in` a list, by what is alike in this model. -/
namespace PySem.SeqAt
open AutoSeq1 (wpAny_loadPart')
open MeetsSeq MeetsSeq2 MeetsSeq3 SeqRoads2
section
variable {prog : Program} {w : World}
/-- x in xs, a list: its items' answers by their places -/
theorem has_loop (l : Addr) (items : Array Value) (n : Nat) (dd : Option Addr) (sl : Array (Option Value)) (x : Value) (e : Nat → Bool) (k : Nat) :
    ∀ i : Nat, items.size - i = k → MeetsIn prog w (Builtin.«list.__contains__.loop» ⟨[.ref l, x, rawInt i], []⟩)
      (fun A R s => s.heap.get? l = some { cls := .type "list", dict := dd, data := .seq items n, slots := sl } ∧ (∀ j (h1 : j < items.size), EqIn prog w A.in1 s items[j] x (e j)) ∧ R (.ok (.ret (.bool (((List.range items.size).drop i).any e)))) s) := by
  induction k with
  | zero =>
    intro i hk A R s h
    obtain ⟨hp, g, d, tk, os⟩ := s; obtain ⟨hl, he, h⟩ := h; wp_walk using wpAny_loadPart' hl
    have z1 : items[((i : Nat) : Int).toNat]? = none := by simp; omega
    have z2 : (List.range items.size).drop i = [] := by simp; omega
    rw [z2] at h; rw [z1]
    wp_walk; exact h
  | succ k ih =>
    intro i hk A R s h
    obtain ⟨hp, g, d, tk, os⟩ := s; obtain ⟨hl, he, h⟩ := h; wp_walk using wpAny_loadPart' hl
    have z0 : i < items.size := by omega
    have z1 : items[((i : Nat) : Int).toNat]? = some items[i] := by simp [z0]
    have z2 : (List.range items.size).drop i = i :: (List.range items.size).drop (i + 1) := by simp [List.drop_eq_getElem_cons, z0]
    have z3 : ((i : Int) + 1) = ((i + 1 : Nat) : Int) := by push_cast; rfl
    rw [z2, List.any_cons] at h; rw [z1]
    refine wpAny_bind (he i z0 _ _ ?_)
    cases hb : e i with
    | true => rw [hb] at h; wp_walk; exact h
    | false =>
      rw [hb] at h; wp_walk; rw [z3]
      exact ⟨plainId_quiet plain_contains_loop _, codeAny_builtin entry_contains_loop (by rw [Around.under_plainId plain_contains_loop _]; exact ih (i + 1) (by omega) A R _ ⟨hl, he, by simpa using h⟩)⟩
theorem list_has (l : Addr) (items : Array Value) (n : Nat) (dd : Option Addr) (sl : Array (Option Value)) (x : Value) (e : Nat → Bool) :
    MeetsIn prog w (Builtin.«list.__contains__» ⟨[.ref l, x], []⟩)
      (fun A R s => s.heap.get? l = some { cls := .type "list", dict := dd, data := .seq items n, slots := sl } ∧ (∀ j (h1 : j < items.size), EqIn prog w A.in1 s items[j] x (e j)) ∧ R (.ok (.ret (.bool ((List.range items.size).any e)))) s) := by
  intro A R s h
  obtain ⟨hp, g, d, tk, os⟩ := s; obtain ⟨hl, he, h⟩ := h; wp_walk using wpAny_loadPart' hl
  exact ⟨plainId_quiet plain_contains_loop _, codeAny_builtin entry_contains_loop (by rw [Around.under_plainId plain_contains_loop _]; exact has_loop l items n dd sl x e _ 0 rfl A R _ ⟨hl, he, by simpa using h⟩)⟩
variable {A : Around} {E : Value → Shared → Prop} {s : Shared}
theorem in_listI {l : Addr} {items : Array Value} {x : Value} {Q : Value → Shared → Prop} (e : Nat → Bool) (hl : s.heap.IsList l items) (he : ∀ j (h1 : j < items.size), EqIn prog w A.in1 s items[j] x (e j))
    (h : Q (.bool ((List.range items.size).any e)) s) : wpAny (model prog w) A (compareOp .In x (.ref l)) Q E s := by
  obtain ⟨⟨cls, dd, data, sl⟩, ho, hc, n, hd⟩ := id hl; simp only at hc hd; subst hc hd
  show wpAny _ A (do return .bool (← contains (.ref l) x)) Q E s
  refine wpAny_bind (wpAny_contains_slot ⟨_, ho, rfl⟩ F.slot_list_contains (wpAny_mono (call_meetsIn (Q := fun v s' => ∃ b, v = .bool b ∧ Q (.bool b) s') F.slot_list_contains ⟨_, ho, rfl⟩ F.entry_list_contains (F.args_list_contains_2 _ _) (list_has l items n dd sl x e) ⟨ho, he, _, rfl, h⟩) (fun v s' hv => ?_) fun _ _ e => e))
  obtain ⟨b, rfl, q⟩ := hv; exact wpAny_truthy_bool (wpAny_pure q)
theorem notIn_listI {l : Addr} {items : Array Value} {x : Value} {Q : Value → Shared → Prop} (e : Nat → Bool) (hl : s.heap.IsList l items) (he : ∀ j (h1 : j < items.size), EqIn prog w A.in1 s items[j] x (e j))
    (h : Q (.bool (!(List.range items.size).any e)) s) : wpAny (model prog w) A (compareOp .NotIn x (.ref l)) Q E s := by
  obtain ⟨⟨cls, dd, data, sl⟩, ho, hc, n, hd⟩ := id hl; simp only at hc hd; subst hc hd
  show wpAny _ A (do return .bool (!(← contains (.ref l) x))) Q E s
  refine wpAny_bind (wpAny_contains_slot ⟨_, ho, rfl⟩ F.slot_list_contains (wpAny_mono (call_meetsIn (Q := fun v s' => ∃ b, v = .bool b ∧ Q (.bool (!b)) s') F.slot_list_contains ⟨_, ho, rfl⟩ F.entry_list_contains (F.args_list_contains_2 _ _) (list_has l items n dd sl x e) ⟨ho, he, _, rfl, h⟩) (fun v s' hv => ?_) fun _ _ e => e))
  obtain ⟨b, rfl, q⟩ := hv; exact wpAny_truthy_bool (wpAny_pure q)
end
end PySem.SeqAt

end

section
/-! Mi, part 44: != of lists, tuples, dicts, by what is alike in this model. -/
namespace PySem.SeqAt
open AutoSeq1 (wpAny_loadPart')
open MeetsSeq MeetsSeq2 MeetsSeq3
section
variable {prog : Program} {w : World}
theorem ne_loopI (l b : Addr) (its its2 : Array Value) (n n2 : Nat) (dd dd2 : Option Addr) (sl sl2 : Array (Option Value)) (hsz : its.size = its2.size) (e : Nat → Bool) (k : Nat) :
    ∀ i : Nat, its.size - i = k → MeetsIn prog w (Builtin.«list.__eq__.loop» ⟨[.ref l, .ref b, rawInt i, rawInt 3], []⟩)
      (fun A R s => s.heap.get? l = some { cls := .type "list", dict := dd, data := .seq its n, slots := sl } ∧ s.heap.get? b = some { cls := .type "list", dict := dd2, data := .seq its2 n2, slots := sl2 } ∧
        (∀ j (h1 : j < its.size) (h2 : j < its2.size), EqIn prog w A.in1 s its[j] its2[j] (e j)) ∧
        R (.ok (.ret (.bool (!((List.range its.size).drop i).all e)))) s) := by
  induction k with
  | zero =>
    intro i hk A R s h; obtain ⟨hp, g, d, tk, os⟩ := s; obtain ⟨hl, hb, he, h⟩ := h; wp_walk using wpAny_loadPart' hl, wpAny_loadPart' hb; have g1 : its[((i : Nat) : Int).toNat]? = none := by simp; omega
    have g2 : its2[((i : Nat) : Int).toNat]? = none := by simp; omega
    have z3 : (List.range its.size).drop i = [] := by simp; omega
    rw [z3] at h; rw [g1, g2]; wp_walk using wpAny_loadPart' hl, wpAny_loadPart' hb; show R (.ok (.ret (.bool (its.size != its2.size)))) _; rw [hsz]; simpa using h
  | succ k ih =>
    intro i hk A R s h; obtain ⟨hp, g, d, tk, os⟩ := s; obtain ⟨hl, hb, he, h⟩ := h; wp_walk using wpAny_loadPart' hl, wpAny_loadPart' hb; have m1 : i < its.size := by omega
    have m2 : i < its2.size := by omega
    have g1 : its[((i : Nat) : Int).toNat]? = some its[i] := by simp [m1]
    have g2 : its2[((i : Nat) : Int).toNat]? = some its2[i] := by simp [m2]
    have z3 : (List.range its.size).drop i = i :: (List.range its.size).drop (i + 1) := by simp [List.drop_eq_getElem_cons, m1]
    have z4 : ((i : Int) + 1) = ((i + 1 : Nat) : Int) := by push_cast; rfl
    rw [z3, List.all_cons] at h; rw [g1, g2]; refine wpAny_bind (he i m1 m2 _ _ ?_)
    cases k1 : e i with
    | true =>
      rw [k1] at h; wp_walk; rw [z4]; exact ⟨plainId_quiet plain_eq_loop _, codeAny_builtin entry_eq_loop (by
        rw [Around.under_plainId plain_eq_loop _]; exact ih (i + 1) (by omega) A R _ ⟨hl, hb, he, by simpa using h⟩)⟩
    | false =>
      rw [k1] at h; wp_walk using wpAny_loadPart' hl, wpAny_loadPart' hb; rw [g1, g2]; wp_walk; simpa using h

theorem list_neI (l b : Addr) (its its2 : Array Value) (n n2 : Nat) (dd dd2 : Option Addr) (sl sl2 : Array (Option Value)) (hsz : its.size = its2.size) (e : Nat → Bool) :
    MeetsIn prog w (Builtin.«list.__ne__» ⟨[.ref l, .ref b], []⟩)
      (fun A R s => s.heap.get? l = some { cls := .type "list", dict := dd, data := .seq its n, slots := sl } ∧ s.heap.get? b = some { cls := .type "list", dict := dd2, data := .seq its2 n2, slots := sl2 } ∧
        (∀ j (h1 : j < its.size) (h2 : j < its2.size), EqIn prog w A.in1 s its[j] its2[j] (e j)) ∧
        R (.ok (.ret (.bool (!(List.range its.size).all e)))) s) := by
  intro A R s h; obtain ⟨hp, g, d, tk, os⟩ := s; obtain ⟨hl, hb, he, h⟩ := h; have f3 := AutoSeq1.sub_list_list; have hne : ¬ (its.size != its2.size) = true := by simp [hsz]
  wp_walk using wpAny_loadPart' hl, wpAny_loadPart' hb; exact ⟨plainId_quiet plain_eq_loop _, codeAny_builtin entry_eq_loop (by
    rw [Around.under_plainId plain_eq_loop _]; exact ne_loopI l b its its2 n n2 dd dd2 sl sl2 hsz e _ 0 rfl A R _ ⟨hl, hb, he, by simpa using h⟩)⟩

theorem tuple_neI (l b : Addr) (its its2 : Array Value) (n n2 : Nat) (dd dd2 : Option Addr) (sl sl2 : Array (Option Value)) (e : Nat → Bool) :
    MeetsIn prog w (Builtin.«tuple.__ne__» ⟨[.ref l, .ref b], []⟩)
      (fun A R s => s.heap.get? l = some { cls := .type "tuple", dict := dd, data := .seq its n, slots := sl } ∧ s.heap.get? b = some { cls := .type "tuple", dict := dd2, data := .seq its2 n2, slots := sl2 } ∧
        (∀ j (h1 : j < its.size) (h2 : j < its2.size), EqIn prog w A.in1 s its[j] its2[j] (e j)) ∧
        R (.ok (.ret (.bool (!((List.range (min its.size its2.size)).all e && its.size == its2.size))))) s) :=
  .of_wp fun A R s h => by
    obtain ⟨hp, g, d, tk, os⟩ := s; obtain ⟨hl, hb, he, h⟩ := h; have f2 := AutoSeq1.sub_tuple_tuple; have hZ : (its.toList.zip its2.toList).length = min its.size its2.size := by simp
    wp_walk using wpAny_loadPart' hl, wpAny_loadPart' hb, wpAny_forIn_list _ (fun rest b s' => b.1 = none ∧ s' = ⟨hp, g, d, tk, os⟩ ∧ ∃ i, rest = (its.toList.zip its2.toList).drop i ∧
      R (.ok (.ret (.bool (!(((List.range (min its.size its2.size)).drop i).all e && its.size == its2.size))))) ⟨hp, g, d, tk, os⟩) _
    case turn =>
      rintro ⟨y, x⟩ rest b s' ⟨k1, rfl, i, hz, hR⟩
      have m1 : i < (its.toList.zip its2.toList).length := by
        rcases Nat.lt_or_ge i (its.toList.zip its2.toList).length with h' | h'
        · exact h'
        · rw [List.drop_of_length_le h'] at hz; cases hz
      have hm : i < min its.size its2.size := hZ ▸ m1; have h1 : i < its.size := Nat.lt_of_lt_of_le hm (Nat.min_le_left _ _); have h2 : i < its2.size := Nat.lt_of_lt_of_le hm (Nat.min_le_right _ _); rw [List.drop_eq_getElem_cons m1] at hz; injection hz with hyx hrest; have hy : y = its[i] := by have := congrArg Prod.fst hyx; simpa using this
      have hx : x = its2[i] := by have := congrArg Prod.snd hyx; simpa using this
      subst hy hx; have z3 : (List.range (min its.size its2.size)).drop i = i :: (List.range (min its.size its2.size)).drop (i + 1) := by simp [List.drop_eq_getElem_cons, hm]
      rw [z3, List.all_cons] at hR; refine wpAny_bind (he i h1 h2 _ _ ?_)
      cases hy : e i with
      | true =>
        rw [hy] at hR; wp_walk; exact ⟨rfl, rfl, i + 1, hrest, by simpa using hR⟩
      | false =>
        rw [hy] at hR; wp_walk; exact ⟨_, rfl, by simpa using hR⟩
    case fin =>
      rintro ⟨b1, b2⟩ s' ⟨k1, rfl, i, hz, hR⟩
      simp only at k1; subst k1; have hge : min its.size its2.size ≤ i := by
        rcases Nat.lt_or_ge i (its.toList.zip its2.toList).length with h' | h'
        · rw [List.drop_eq_getElem_cons h'] at hz; cases hz
        · exact hZ ▸ h'
      rw [List.drop_of_length_le (by simpa using hge)] at hR
      wp_walk; exact ⟨_, rfl, by simpa [Builtin.Tuple.tupleCompareSizes, bne] using hR⟩
    case h =>
      exact ⟨rfl, rfl, 0, rfl, by simpa using h⟩

variable {A : Around} {E : Value → Shared → Prop} {s : Shared}
theorem ne_listsI {l b : Addr} {xs ys : Array Value} {e : Nat → Bool} {Q : Value → Shared → Prop} (hl : s.heap.IsList l xs) (hb : s.heap.IsList b ys) (hz : xs.size = ys.size) (hu : A.units < cLine)
    (he : ∀ j (h1 : j < xs.size) (h2 : j < ys.size), EqIn prog w A.in1 s xs[j] ys[j] (e j)) (h : Q (.bool (!(List.range xs.size).all e)) s) : wpAny (model prog w) A (richCompare .NotEq (.ref l) (.ref b)) Q E s := by
  obtain ⟨⟨c1, d1, a1, t1⟩, o1, k1, n1, f1⟩ := id hl; obtain ⟨⟨c2, d2, a2, t2⟩, o2, k2, n2, f2⟩ := id hb
  simp only at k1 f1 k2 f2; subst k1 f1 k2 f2
  refine wpAny_richCompare_same_room (op := .NotEq) ⟨_, o1, rfl⟩ ⟨_, o2, rfl⟩ F.slot_list_ne (call_meetsIn F.slot_list_ne ⟨_, o1, rfl⟩ F.entry_list_ne (F.args_list_ne_2 _ _) (list_neI l b xs ys n1 n2 d1 d2 t1 t2 hz e) ⟨o1, o2, he, show Value.bool _ ≠ Value.notImplemented ∧ Q (.bool _) s from ⟨(fun x => nomatch x), h⟩⟩) hu
theorem ne_tuplesI {l b : Addr} {xs ys : Array Value} {e : Nat → Bool} {Q : Value → Shared → Prop} (hl : s.heap.IsTuple l xs) (hb : s.heap.IsTuple b ys) (hu : A.units < cLine)
    (he : ∀ j (h1 : j < xs.size) (h2 : j < ys.size), EqIn prog w A.in1 s xs[j] ys[j] (e j)) (h : Q (.bool (!((List.range (min xs.size ys.size)).all e && xs.size == ys.size))) s) : wpAny (model prog w) A (richCompare .NotEq (.ref l) (.ref b)) Q E s := by
  obtain ⟨⟨c1, d1, a1, t1⟩, o1, k1, n1, f1⟩ := id hl; obtain ⟨⟨c2, d2, a2, t2⟩, o2, k2, n2, f2⟩ := id hb
  simp only at k1 f1 k2 f2; subst k1 f1 k2 f2
  refine wpAny_richCompare_same_room (op := .NotEq) ⟨_, o1, rfl⟩ ⟨_, o2, rfl⟩ F.slot_tuple_ne (call_meetsIn F.slot_tuple_ne ⟨_, o1, rfl⟩ F.entry_tuple_ne (F.args_tuple_ne_2 _ _) (tuple_neI l b xs ys n1 n2 d1 d2 t1 t2 e) ⟨o1, o2, he, show Value.bool _ ≠ Value.notImplemented ∧ Q (.bool _) s from ⟨(fun x => nomatch x), h⟩⟩) hu
end
end PySem.SeqAt
namespace PySem.W
open PySem.SeqAt
section
variable {prog : Program} {w : World} {A : Around} {E : Value → Shared → Prop} {s : Shared} {K : Type} [DecidableEq K] {knd : KeyKind prog w K}
theorem ne_dictsI {a b : Addr} {ka kb : List (K × Value)} {r : Bool} {Q : Value → Shared → Prop} (ha : (a == sysModules) = false) (hb : (b == sysModules) = false)
    (da : s.heap.DictOf knd a ka) (db : s.heap.DictOf knd b kb) (hu : A.units < cLine) (hits : ka.length = kb.length → KeqHitsIn prog w A.in1 s kb ka r) (h : Q (.bool (!(ka.length == kb.length && r))) s) :
    wpAny (model prog w) A (compareOp .NotEq (.ref a) (.ref b)) Q E s := by
  refine wpAny_richCompare_same_room (op := .NotEq) da.typeIs db.typeIs PySem.F.slot_dict_ne (wpAny_call_entry PySem.F.slot_dict_ne da.typeIs PySem.F.entry_dict_ne ?_ (PySem.F.args_dict_ne_2 _ _)) hu
  show wpAny _ _ (Builtin.Dict.dictSlotArgs "__ne__" ⟨[.ref a, .ref b], []⟩ >>= _) _ _ s
  refine wpAny_bind ?_; unfold Builtin.Dict.dictSlotArgs
  refine wpAny_bind (wpAny_notOrdered_dict da.typeIs ?_); show wpAny _ _ (pure (Value.ref a, Value.ref b)) _ _ s
  refine wpAny_pure (wpAny_bind (wpAny_isInstance (T := "dict") db.typeIs PySem.F.sub_dict_dict ?_))
  simp only [Bool.not_true, Bool.false_eq_true, if_false]
  refine wpAny_bind (wpAny_pure (wpAny_bind (wpAny_pure (wpAny_bind (keq_samePairsIn ha hb da db hits (wpAny_pure ⟨_, rfl, ?_, ?_⟩))))))
  · exact fun x => nomatch x
  · simpa using h
end
end PySem.W

end

section
/-! Mi, part 45: == and `in` through cells and dicts, as deep as sixty. -/
namespace Mi
open PySem PySem.Spec PyProof.Rows L2
open PySem.W PySem.SeqAt

/-- what a value is, seen through the cells -/
inductive Sh where
  | sc (d : D)
  | tup (ds : List D)
  | lst (ds : List D)
  | dct (kvs : List (Key × D))
def shOf (M : MH) : D → Option Sh
  | .non => some (.sc .non)
  | .bl b => some (.sc (.bl b))
  | .int i => some (.sc (.int i))
  | .str x => some (.sc (.str x))
  | .tup ds => some (.tup ds)
  | .lst ds => some (.lst ds)
  | .dct ks ds => some (.dct (ks.zip ds))
  | .ref l => match M[l]? with
    | some (.lst ds) => some (.lst ds)
    | some (.dct kvs) => some (.dct kvs)
    | _ => none
  | _ => none
def lkK (kvs : List (Key × D)) (k : Key) : Option D := (kvs.find? fun p => decide (p.1 = k)).map (·.2)
def eqL (f : D → D → Option Bool) : List D → List D → Option Bool
  | x :: xs, y :: ys => match f x y, eqL f xs ys with
    | some a, some b => some (a && b)
    | _, _ => none
  | _, _ => some true
def eqK (f : D → D → Option Bool) (ys : List (Key × D)) : List (Key × D) → Option Bool
  | [] => some true
  | (k, x) :: r => match lkK ys k with
    | none => (eqK f ys r).map fun _ => false
    | some y => match f x y, eqK f ys r with
      | some a, some b => some (a && b)
      | _, _ => none
def eqH (M : MH) : Nat → D → D → Option Bool
  | 0, _, _ => none
  | n + 1, x, y => match shOf M x, shOf M y with
    | some (.sc a), some (.sc b) => some (deq a b)
    | some (.tup xs), some (.tup ys) => (eqL (eqH M n) xs ys).map fun b => b && decide (xs.length = ys.length)
    | some (.lst xs), some (.lst ys) => if xs.length = ys.length then eqL (eqH M n) xs ys else some false
    | some (.dct xs), some (.dct ys) => (eqK (eqH M n) ys xs).map fun b => decide (xs.length = ys.length) && b
    | some _, some _ => some false
    | _, _ => none

/-- what it is in the heap -/
def ShV (K : PySem.W.Frag) (ρ : Rho) (H : Hp) (v : V) : Sh → Prop
  | .sc d => scal d = true ∧ Den K ρ H d v
  | .tup ds => ∃ a xs, v = .ref a ∧ SqT K H a xs ∧ Dens K ρ H ds xs
  | .lst ds => ∃ a xs, v = .ref a ∧ SqL K H a xs ∧ Dens K ρ H ds xs
  | .dct kvs => ∃ a ks, v = .ref a ∧ Rd H a (.dK ks) ∧ DenP K ρ H kvs ks
section
variable {K : PySem.W.Frag} {ρ : Rho} {M : MH} {H : Hp}
theorem denP_zipS : ∀ {ds : List D} {kvs : List (Key × V)}, Dens K ρ H ds (kvs.map (·.2)) → DenP K ρ H ((kvs.map (·.1)).zip ds) kvs
  | ds, [], h => by rw [List.map_nil] at h ⊢; exact .nil
  | [], kv :: r, h => by rw [List.map_cons, dens_nil] at h; cases h
  | d :: ds, kv :: r, h => by
    rw [List.map_cons] at h
    obtain ⟨v, t, e, h1, h2⟩ := dens_cons.mp h
    injection e with e1 e2
    subst e1 e2
    rw [List.map_cons, List.zip_cons_cons]
    exact .cons ⟨rfl, h1⟩ (denP_zipS h2)
theorem shOf_v (Rl : Rel K ρ M H) {d : D} {v : V} {sh : Sh} (h : Den K ρ H d v) (e : shOf M d = some sh) : ShV K ρ H v sh := by
  cases d with
  | non => cases e; exact ⟨rfl, h⟩
  | bl b => cases e; exact ⟨rfl, h⟩
  | int i => cases e; exact ⟨rfl, h⟩
  | str x => cases e; exact ⟨rfl, h⟩
  | tup ds => cases e; exact den_tup.mp h
  | lst ds =>
    cases e
    obtain ⟨a, xs, h1, h2, h3⟩ := den_lst.mp h
    exact ⟨a, xs, h1, h2.sq, h3⟩
  | dct ks ds =>
    cases e
    obtain ⟨a, kvs, h1, h2, _, h4, h5⟩ := den_dct.mp h; have h2 := h2.rd
    subst h4
    exact ⟨a, kvs, h1, h2, denP_zipS h5⟩
  | ref l =>
    obtain ⟨a, o, rfl, hl, ho⟩ := den_ref.mp h
    unfold shOf at e
    simp only at e
    split at e
    · rename_i ds hm
      cases e
      obtain ⟨b, xs, h1, h2, h3⟩ := Rl.obj l _ hm
      rw [hl] at h1; cases h1
      have z := ho b rfl; subst z
      exact ⟨b, xs, rfl, SqL.of h2, h3⟩
    · rename_i kvs hm
      cases e
      obtain ⟨b, ks, h1, h2, h3⟩ := Rl.obj l _ hm
      rw [hl] at h1; cases h1
      have z := ho b rfl; subst z
      exact ⟨b, ks, rfl, .inl h2, h3⟩
    · cases e
  | ty _ => cases e
  | adr _ => cases e
  | fn _ => cases e
  | exo _ _ _ _ => cases e
theorem dens_get : ∀ {ds : List D} {xs : List V} {j : Nat} {d : D}, Dens K ρ H ds xs → ds[j]? = some d → ∃ v, xs[j]? = some v ∧ Den K ρ H d v
  | [], _, _, _, _, e => by cases e
  | d :: ds, xs, 0, x, h, e => by
    obtain ⟨v, r, rfl, h1, h2⟩ := dens_cons.mp h
    cases e
    exact ⟨v, rfl, h1⟩
  | d :: ds, xs, j + 1, x, h, e => by
    obtain ⟨v, r, rfl, h1, h2⟩ := dens_cons.mp h
    obtain ⟨u, g1, g2⟩ := dens_get (j := j) h2 (by simpa using e)
    exact ⟨u, by simpa using g1, g2⟩
theorem dens_len {ds : List D} {xs : List V} (h : Dens K ρ H ds xs) : ds.length = xs.length := by
  induction ds generalizing xs with
  | nil => rw [dens_nil] at h; subst h; rfl
  | cons d ds ih =>
    obtain ⟨v, r, rfl, _, h2⟩ := dens_cons.mp h
    rw [List.length_cons, List.length_cons, ih h2]
end

/-! ### answers by places -/
def ej (f : D → D → Option Bool) (xs ys : List D) (j : Nat) : Bool := match xs[j]?, ys[j]? with
  | some x, some y => (f x y).getD false
  | _, _ => false
theorem ej_succ {f : D → D → Option Bool} {x y : D} {xs ys : List D} {j : Nat} : ej f (x :: xs) (y :: ys) (j + 1) = ej f xs ys j := by simp [ej]
theorem eqL_all {f : D → D → Option Bool} : ∀ {xs ys : List D} {b : Bool}, eqL f xs ys = some b → (List.range (min xs.length ys.length)).all (ej f xs ys) = b ∧ ∀ (j : Nat) (x y : D), xs[j]? = some x → ys[j]? = some y → f x y = some (ej f xs ys j)
  | [], ys, b, h => by
    unfold eqL at h
    cases h
    exact ⟨by simp, fun j x y e => by cases e⟩
  | x :: xs, [], b, h => by
    unfold eqL at h
    cases h
    exact ⟨by simp, fun j x y _ e => by cases e⟩
  | x :: xs, y :: ys, b, h => by
    unfold eqL at h
    split at h
    · rename_i a c e1 e2
      cases h
      obtain ⟨i1, i2⟩ := eqL_all e2
      have z : ej f (x :: xs) (y :: ys) 0 = a := by simp [ej, e1]
      refine ⟨?_, fun j u v hu hv => ?_⟩
      · have m : min (x :: xs).length (y :: ys).length = min xs.length ys.length + 1 := by simp only [List.length_cons]; omega
        rw [m, List.range_succ_eq_map, List.all_cons, List.all_map, z]
        have w : (ej f (x :: xs) (y :: ys) ∘ Nat.succ) = ej f xs ys := by funext j; exact ej_succ
        rw [w, i1]
      · cases j with
        | zero =>
          cases hu
          cases hv
          rw [z, e1]
        | succ j =>
          rw [ej_succ]
          exact i2 j u v (by simpa using hu) (by simpa using hv)
    · cases h
theorem lkK_some_mem {kvs : List (Key × D)} {k : Key} {y : D} (h : lkK kvs k = some y) : (k, y) ∈ kvs := by
  unfold lkK at h
  obtain ⟨p, h1, h2⟩ := Option.map_eq_some_iff.mp h
  have z : p.1 = k := by simpa using List.find?_some h1
  have m := List.mem_of_find?_eq_some h1
  cases p
  simp only at z h2
  subst z h2
  exact m
theorem eqK_all {f : D → D → Option Bool} {ys : List (Key × D)} : ∀ {xs : List (Key × D)} {b : Bool}, eqK f ys xs = some b → (xs.all fun p => match lkK ys p.1 with | some y => (f p.2 y).getD false | none => false) = b ∧ ∀ p ∈ xs, ∀ y, lkK ys p.1 = some y → ∃ c, f p.2 y = some c
  | [], b, h => by
    unfold eqK at h
    cases h
    exact ⟨rfl, fun p hp => by cases hp⟩
  | (k, x) :: r, b, h => by
    unfold eqK at h
    split at h
    · rename_i e
      obtain ⟨c, h1, h2⟩ := Option.map_eq_some_iff.mp h
      subst h2
      obtain ⟨i1, i2⟩ := eqK_all h1
      refine ⟨?_, fun p hp y hy => ?_⟩
      · rw [List.all_cons]
        simp only [e, Bool.false_and]
      · rcases List.mem_cons.mp hp with rfl | hp
        · rw [e] at hy; cases hy
        · exact i2 p hp y hy
    · rename_i y e
      split at h
      · rename_i a c e1 e2
        cases h
        obtain ⟨i1, i2⟩ := eqK_all e2
        refine ⟨?_, fun p hp z hz => ?_⟩
        · rw [List.all_cons, i1]
          simp only [e, e1, Option.getD_some]
        · rcases List.mem_cons.mp hp with rfl | hp
          · rw [e] at hz; cases hz; exact ⟨a, e1⟩
          · exact i2 p hp z hz
      · cases h

/-! ### the same thing is alike -/
theorem py_refl : ∀ {d e : D} {K : PySem.W.Frag} {ρ : Rho} {H : Hp} {v : V}, scal d = true → scal e = true → Den K ρ H d v → Den K ρ H e v → deq d e = true := by
  intro d e K ρ H v s t h g
  have z := (scal_v s h).symm.trans (scal_v t g)
  cases d <;> cases e <;> first
    | (cases s; done)
    | (cases t; done)
    | skip
  all_goals simp [sv] at z
  all_goals first
    | rfl
    | (subst z; simp [deq, py, PyData.eqv])
theorem rd_inj {H : Hp} {a : Addr} {ks ls : List (Key × V)} (h : Rd H a (.dK ks)) (g : Rd H a (.dK ls)) : ks = ls := by
  rcases h with h | ⟨o, h⟩ <;> rcases g with g | ⟨u, g⟩ <;> (rw [h] at g; cases g; try rfl)
section
variable {X : Cx} {pins : List (Addr × Obj)} {σ : L2.St} {H : Hp} {s : Shared} {ρ : Rho} {M : MH}
theorem shV_tupO (I : Inv X pins σ H s) {a : Addr} {xs : List V} (h : SqT X.K H a xs) : ∃ its : List Value, Vals xs its ∧ s.heap.IsTuple a its.toArray := by
  obtain ⟨its, rv, p, _⟩ := I.tuple h
  exact ⟨its, rv, p⟩
theorem shV_lstO (I : Inv X pins σ H s) {a : Addr} {xs : List V} (h : SqL X.K H a xs) : ∃ its : List Value, Vals xs its ∧ s.heap.IsList a its.toArray := by
  obtain ⟨its, rv, ⟨o, n, ho, hc, _, hd⟩, _⟩ := I.list h
  exact ⟨its, rv, ⟨o, ho, hc, n, hd⟩⟩
theorem shV_dctO (I : Inv X pins σ H s) {a : Addr} {ks : List (Key × V)} (h : Rd H a (.dK ks)) : (a == sysModules) = false ∧ (∃ vs, KV ks vs ∧ s.heap.DictOf (mixKind X.prog X.w) a vs) ∧ DObj s a := by
  obtain ⟨_, z, vs, k, d⟩ := dk_rd I.hok h
  have d0 := d
  obtain ⟨o, es, ep, e1, e2, e3, _⟩ := d
  exact ⟨z, ⟨vs, k, d0⟩, o, e1, e2.1, es, ep, e3⟩
theorem nodup_kv {κ : Type} {ks : List (κ × V)} {vs : List (κ × Value)} (k : KV ks vs) : ks.map (·.1) = vs.map (·.1) := by
  induction k with
  | nil => rfl
  | cons r _ ih => rw [List.map_cons, List.map_cons, r.1, ih]
theorem dct_nodup (I : Inv X pins σ H s) {a : Addr} {ks : List (Key × V)} (h : Rd H a (.dK ks)) : (ks.map (·.1)).Nodup := by
  obtain ⟨_, ⟨vs, k, d⟩, _⟩ := shV_dctO I h
  rw [nodup_kv k]
  obtain ⟨_, _, _, _, _, _, _, _, n⟩ := d
  exact n
theorem tup_lst_no (I : Inv X pins σ H s) {a : Addr} {xs ys : List V} (h : SqT X.K H a xs) (g : SqL X.K H a ys) : False := by
  obtain ⟨_, _, p⟩ := shV_tupO I h
  obtain ⟨_, _, q⟩ := shV_lstO I g
  exact ne_of_list_tuple q p rfl
theorem tup_dct_no (I : Inv X pins σ H s) {a : Addr} {xs : List V} {ks : List (Key × V)} (h : SqT X.K H a xs) (g : Rd H a (.dK ks)) : False := by
  obtain ⟨_, _, p⟩ := shV_tupO I h
  exact ne_dict_tuple (shV_dctO I g).2.2 p rfl
theorem lst_dct_no (I : Inv X pins σ H s) {a : Addr} {xs : List V} {ks : List (Key × V)} (h : SqL X.K H a xs) (g : Rd H a (.dK ks)) : False := by
  obtain ⟨_, _, p⟩ := shV_lstO I h
  exact ne_dict_list (shV_dctO I g).2.2 p rfl
theorem sc_ref_no {K : PySem.W.Frag} {d : D} {a : Addr} (s : scal d = true) (h : Den K ρ H d (.ref a)) : False := by
  have z := scal_v s h
  cases d <;> first
    | (cases s; done)
    | (cases z; done)
theorem eqL_same {f : D → D → Option Bool} (hf : ∀ x y v b, Den X.K ρ H x v → Den X.K ρ H y v → f x y = some b → b = true) : ∀ {xs ys : List D} {vs : List V} {b : Bool}, Dens X.K ρ H xs vs → Dens X.K ρ H ys vs → eqL f xs ys = some b → b = true
  | [], _, _, _, _, _, h => by unfold eqL at h; cases h; rfl
  | _ :: _, [], _, _, _, _, h => by unfold eqL at h; cases h; rfl
  | x :: xs, y :: ys, vs, b, hx, hy, h => by
    obtain ⟨v, r, rfl, h1, h2⟩ := dens_cons.mp hx
    obtain ⟨u, t, e, g1, g2⟩ := dens_cons.mp hy
    injection e with e1 e2
    subst e1 e2
    unfold eqL at h
    split at h
    · rename_i p q e1 e2
      cases h
      rw [hf _ _ _ _ h1 g1 e1, eqL_same hf h2 g2 e2]
      rfl
    · cases h
/-- looked up on both sides -/
theorem lk_pair {κ : Type} [DecidableEq κ] {α β : Type} {F : α → β → Prop} : ∀ {xs : List (κ × α)} {ks : List (κ × β)} {k : κ}, Paired (fun p q => p.1 = q.1 ∧ F p.2 q.2) xs ks →
    ((xs.find? fun p => decide (p.1 = k)).map (·.2) = none ∧ (ks.find? fun p => decide (p.1 = k)).map (·.2) = none) ∨ ∃ x v, (xs.find? fun p => decide (p.1 = k)).map (·.2) = some x ∧ (ks.find? fun p => decide (p.1 = k)).map (·.2) = some v ∧ F x v
  | [], _, _, h => by cases h; exact .inl ⟨rfl, rfl⟩
  | (c, x) :: xs, _, k, h => by
    cases h with
    | cons r t =>
      rename_i q ks
      obtain ⟨c', v⟩ := q
      simp only at r
      obtain ⟨rfl, r2⟩ := r
      by_cases e : c = k
      · exact .inr ⟨x, v, by simp [e], by simp [e], r2⟩
      · rcases lk_pair (k := k) t with ⟨e1, e2⟩ | ⟨y, u, e1, e2, e3⟩
        · exact .inl ⟨by simpa [e] using e1, by simpa [e] using e2⟩
        · exact .inr ⟨y, u, by simpa [e] using e1, by simpa [e] using e2, e3⟩
/-- each one is found by its key -/
theorem lk_mem {κ : Type} [DecidableEq κ] {α : Type} : ∀ {ks : List (κ × α)} {k : κ} {v : α}, (ks.map (·.1)).Nodup → (k, v) ∈ ks → (ks.find? fun p => decide (p.1 = k)).map (·.2) = some v
  | [], _, _, _, m => by cases m
  | (c, u) :: ks, k, v, n, m => by
    rw [List.map_cons, List.nodup_cons] at n
    rcases List.mem_cons.mp m with e | m
    · cases e; simp
    · have ne : ¬ c = k := fun e => n.1 (by subst e; exact List.mem_map_of_mem (f := (·.1)) m)
      simpa [ne] using lk_mem n.2 m
theorem denP_keys {xs : List (Key × D)} {ks : List (Key × V)} {K : PySem.W.Frag} (h : DenP K ρ H xs ks) : xs.map (·.1) = ks.map (·.1) := by
  induction h with
  | nil => rfl
  | cons r _ ih => rw [List.map_cons, List.map_cons, r.1, ih]
theorem denP_len {xs : List (Key × D)} {ks : List (Key × V)} {K : PySem.W.Frag} (h : DenP K ρ H xs ks) : xs.length = ks.length := by
  have z := congrArg List.length (denP_keys h)
  simpa using z
theorem eqH_same (I : Inv X pins σ H s) (Rl : Rel X.K ρ M H) : ∀ (n : Nat) (x y : D) (v : V) (b : Bool), Den X.K ρ H x v → Den X.K ρ H y v → eqH M n x y = some b → b = true := by
  intro n
  induction n with
  | zero => intro x y v b _ _ h; cases h
  | succ n ih =>
    intro x y v b hx hy h
    unfold eqH at h
    cases ex : shOf M x with
    | none => simp [ex] at h
    | some shx =>
      cases ey : shOf M y with
      | none => simp [ex, ey] at h
      | some shy =>
        have px := shOf_v Rl hx ex
        have py := shOf_v Rl hy ey
        rw [ex, ey] at h
        cases shx with
        | sc a =>
          cases shy with
          | sc c => cases h; exact py_refl px.1 py.1 px.2 py.2
          | tup ys => obtain ⟨_, _, rfl, _⟩ := py; exact (sc_ref_no px.1 px.2).elim
          | lst ys => obtain ⟨_, _, rfl, _⟩ := py; exact (sc_ref_no px.1 px.2).elim
          | dct ys => obtain ⟨_, _, rfl, _⟩ := py; exact (sc_ref_no px.1 px.2).elim
        | tup xs =>
          obtain ⟨a, us, rfl, h1, h2⟩ := px
          cases shy with
          | sc c => exact (sc_ref_no py.1 py.2).elim
          | tup ys =>
            obtain ⟨a', ws, e, g1, g2⟩ := py
            cases e
            have z := I.tuple_inj h1 g1
            subst z
            obtain ⟨c, e1, e2⟩ := Option.map_eq_some_iff.mp h
            subst e2
            rw [eqL_same ih h2 g2 e1, dens_len h2, dens_len g2]
            simp
          | lst ys => obtain ⟨a', ws, e, g1, g2⟩ := py; cases e; exact (tup_lst_no I h1 g1).elim
          | dct ys => obtain ⟨a', ws, e, g1, g2⟩ := py; cases e; exact (tup_dct_no I h1 g1).elim
        | lst xs =>
          obtain ⟨a, us, rfl, h1, h2⟩ := px
          cases shy with
          | sc c => exact (sc_ref_no py.1 py.2).elim
          | tup ys => obtain ⟨a', ws, e, g1, g2⟩ := py; cases e; exact (tup_lst_no I g1 h1).elim
          | lst ys =>
            obtain ⟨a', ws, e, g1, g2⟩ := py
            cases e
            have z := I.list_inj h1 g1
            subst z
            simp only at h
            rw [if_pos ((dens_len h2).trans (dens_len g2).symm)] at h
            exact eqL_same ih h2 g2 h
          | dct ys => obtain ⟨a', ws, e, g1, g2⟩ := py; cases e; exact (lst_dct_no I h1 g1).elim
        | dct xs =>
          obtain ⟨a, us, rfl, h1, h2⟩ := px
          cases shy with
          | sc c => exact (sc_ref_no py.1 py.2).elim
          | tup ys => obtain ⟨a', ws, e, g1, g2⟩ := py; cases e; exact (tup_dct_no I g1 h1).elim
          | lst ys => obtain ⟨a', ws, e, g1, g2⟩ := py; cases e; exact (lst_dct_no I g1 h1).elim
          | dct ys =>
            obtain ⟨a', ws, e, g1, g2⟩ := py
            cases e
            have z := rd_inj h1 g1
            subst z
            obtain ⟨c, e1, e2⟩ := Option.map_eq_some_iff.mp h
            subst e2
            have nd := dct_nodup I h1
            have el : xs.length = ys.length := (denP_len h2).trans (denP_len g2).symm
            obtain ⟨k1, k2⟩ := eqK_all e1
            rw [decide_eq_true el, Bool.true_and, ← k1, List.all_eq_true]
            intro p hp
            have nx : (xs.map (·.1)).Nodup := by rw [denP_keys h2]; exact nd
            have lx : lkK xs p.1 = some p.2 := lk_mem (k := p.1) (v := p.2) nx hp
            rcases lk_pair (k := p.1) h2 with ⟨q1, q2⟩ | ⟨x', u, q1, q2, q3⟩
            · unfold lkK at lx; rw [q1] at lx; cases lx
            · rcases lk_pair (k := p.1) g2 with ⟨r1, r2⟩ | ⟨y', u', r1, r2, r3⟩
              · rw [q2] at r2; cases r2
              · rw [q2] at r2; cases r2
                have ey' : lkK ys p.1 = some y' := r1
                unfold lkK at lx; rw [q1] at lx; cases lx
                obtain ⟨c', hc'⟩ := k2 p hp y' ey'
                simp only [ey', hc', Option.getD_some]
                exact ih _ _ _ _ q3 r3 hc'
end

/-! ### the comparison, as deep as it goes -/
section
variable {X : Cx} {pins : List (Addr × Obj)} {σ : L2.St} {H : Hp} {s : Shared} {ρ : Rho} {M : MH}
theorem vals_at {xs : List V} {its : List Value} (r : Vals xs its) {j : Nat} (hj : j < its.toArray.size) : ∃ v, xs[j]? = some v ∧ RelV v its.toArray[j] := by
  have hl := r.length
  have h1 : j < xs.length := by rw [hl]; simpa using hj
  obtain ⟨u, e, rv⟩ := r.get (i := j) (x := xs[j]) (List.getElem?_eq_getElem h1)
  refine ⟨xs[j], List.getElem?_eq_getElem h1, ?_⟩
  have h2 : j < its.length := by simpa using hj
  rw [List.getElem?_eq_getElem h2] at e
  cases e
  simpa using rv
theorem reads_sc {d : D} {v : V} {u : Value} {h : Heap} {K : PySem.W.Frag} (sc : scal d = true) (dv : Den K ρ H d v) (r : RelV v u) : ∃ as, PySem.Reads h u (py d) as ∧ (py d).plain = true ∧ (py d).depth = 0 := by
  have z := scal_v sc dv
  subst z
  cases d <;> first
    | (cases sc; done)
    | skip
  · cases r; exact ⟨_, PySem.Reads.none, rfl, rfl⟩
  · cases r; exact ⟨_, PySem.Reads.bool _, rfl, rfl⟩
  · obtain ⟨t, rfl⟩ := r; exact ⟨_, PySem.Reads.int _ t, rfl, rfl⟩
  · obtain ⟨t, rfl⟩ := r; exact ⟨_, PySem.Reads.str _ t, rfl, rfl⟩
/-- a plain one beside a thing of the heap -/
theorem sc_beside {d : D} {v : V} {u : Value} {K : PySem.W.Frag} (sc : scal d = true) (dv : Den K ρ H d v) (r : RelV v u) {l : Addr} :
    (∀ {items : Array Value} {A : Around}, s.heap.IsTuple l items → A.units < cLine → EqAt A s u (.ref l) false ∧ EqAt A s (.ref l) u false ∧ RcAt A s u (.ref l) false ∧ RcAt A s (.ref l) u false) ∧
    (∀ {items : Array Value} {A : Around}, s.heap.IsList l items → A.units < cLine → EqAt A s u (.ref l) false ∧ EqAt A s (.ref l) u false ∧ RcAt A s u (.ref l) false ∧ RcAt A s (.ref l) u false) ∧
    (∀ {A : Around}, DObj s l → A.units < cLine → EqAt A s u (.ref l) false ∧ EqAt A s (.ref l) u false ∧ RcAt A s u (.ref l) false ∧ RcAt A s (.ref l) u false) := by
  have z := scal_v sc dv
  subst z
  cases d <;> first
    | (cases sc; done)
    | skip
  · cases r
    exact ⟨fun h g => ⟨EqAt.none_tuple h g, EqAt.tuple_none h g, RcAt.none_tuple h g, RcAt.tuple_none h g⟩, fun h g => ⟨EqAt.none_list h g, EqAt.list_none h g, RcAt.none_list h g, RcAt.list_none h g⟩, fun h g => ⟨EqAt.none_dict h g, EqAt.dict_none h g, RcAt.none_dict h g, RcAt.dict_none h g⟩⟩
  · cases r
    exact ⟨fun h g => ⟨EqAt.bool_tuple _ h g, EqAt.tuple_bool _ h g, RcAt.bool_tuple _ h g, RcAt.tuple_bool _ h g⟩, fun h g => ⟨EqAt.bool_list _ h g, EqAt.list_bool _ h g, RcAt.bool_list _ h g, RcAt.list_bool _ h g⟩, fun h g => ⟨EqAt.bool_dict _ h g, EqAt.dict_bool _ h g, RcAt.bool_dict _ h g, RcAt.dict_bool _ h g⟩⟩
  · obtain ⟨t, rfl⟩ := r
    exact ⟨fun h g => ⟨EqAt.int_tuple _ t h g, EqAt.tuple_int _ t h g, RcAt.int_tuple _ t h g, RcAt.tuple_int _ t h g⟩, fun h g => ⟨EqAt.int_list _ t h g, EqAt.list_int _ t h g, RcAt.int_list _ t h g, RcAt.list_int _ t h g⟩, fun h g => ⟨EqAt.int_dict _ t h g, EqAt.dict_int _ t h g, RcAt.int_dict _ t h g, RcAt.dict_int _ t h g⟩⟩
  · obtain ⟨t, rfl⟩ := r
    exact ⟨fun h g => ⟨EqAt.str_tuple _ t h g, EqAt.tuple_str _ t h g, RcAt.str_tuple _ t h g, RcAt.tuple_str _ t h g⟩, fun h g => ⟨EqAt.str_list _ t h g, EqAt.list_str _ t h g, RcAt.str_list _ t h g, RcAt.list_str _ t h g⟩, fun h g => ⟨EqAt.str_dict _ t h g, EqAt.dict_str _ t h g, RcAt.str_dict _ t h g, RcAt.dict_str _ t h g⟩⟩
theorem leaf_of {v y : Value} {b : Bool} {n : Nat} (h : ∀ A : Around, A.units < cLine → EqAt A s v y b) : EqTree X.prog X.w s n v y b := .leaf fun A hu => h A (by omega)
/-- what the dicts' answers are made of -/
theorem dct_parts {f : D → D → Option Bool} {P : Value → Value → Bool → Prop} {xs ys : List (Key × D)} {ks ls : List (Key × V)} {vs ws : List (Key × Value)} {c : Bool} (nd : (ks.map (·.1)).Nodup) (hx : DenP X.K ρ H xs ks) (hy : DenP X.K ρ H ys ls) (kx : KV ks vs) (ky : KV ls ws)
    (e : eqK f ys xs = some c) (hf : ∀ x y v w v' w' b, Den X.K ρ H x v → Den X.K ρ H y w → RelV v v' → RelV w w' → f x y = some b → P v' w' b) :
    ∃ g : Key → Bool, (∀ k v y, (k, v) ∈ vs → valueAt ws k = some y → P v y (g k)) ∧ (vs.length == ws.length && vs.all fun p => (valueAt ws p.1).isSome && g p.1) = (decide (xs.length = ys.length) && c) := by
  obtain ⟨k1, k2⟩ := eqK_all e
  have nx : (xs.map (·.1)).Nodup := by rw [denP_keys hx]; exact nd
  have nv : (vs.map (·.1)).Nodup := by rw [← nodup_kv kx]; exact nd
  refine ⟨fun k => match lkK xs k, lkK ys k with | some x, some y => (f x y).getD false | _, _ => false, ?_, ?_⟩
  · intro k v y hm hv
    have lv := lk_mem (k := k) (v := v) nv hm
    rcases lk_pair (k := k) kx with ⟨q1, q2⟩ | ⟨u, v0, q1, q2, q3⟩
    · rw [q2] at lv; cases lv
    rw [q2] at lv; cases lv
    rcases lk_pair (k := k) hx with ⟨p1, p2⟩ | ⟨x, u0, p1, p2, p3⟩
    · rw [q1] at p2; cases p2
    rw [q1] at p2; cases p2
    rcases lk_pair (k := k) ky with ⟨r1, r2⟩ | ⟨u2, v2, r1, r2, r3⟩
    · unfold valueAt at hv; rw [r2] at hv; cases hv
    unfold valueAt at hv; rw [r2] at hv; cases hv
    rcases lk_pair (k := k) hy with ⟨t1, t2⟩ | ⟨z, u3, t1, t2, t3⟩
    · rw [r1] at t2; cases t2
    rw [r1] at t2; cases t2
    have ex : lkK xs k = some x := p1
    have ey : lkK ys k = some z := t1
    obtain ⟨d, hd⟩ := k2 (k, x) (lkK_some_mem ex) z ey
    simp only at hd
    simp only [ex, ey, hd, Option.getD_some]
    exact hf _ _ _ _ _ _ _ p3 t3 q3 r3 hd
  · have l1 : vs.length = xs.length := by
      have a := congrArg List.length (nodup_kv kx)
      have b := denP_len hx
      simp only [List.length_map] at a
      omega
    have l2 : ws.length = ys.length := by
      have a := congrArg List.length (nodup_kv ky)
      have b := denP_len hy
      simp only [List.length_map] at a
      omega
    have hk : vs.map (·.1) = xs.map (·.1) := (nodup_kv kx).symm.trans (denP_keys hx).symm
    have hA : (vs.all fun p => (valueAt ws p.1).isSome && (match lkK xs p.1, lkK ys p.1 with | some x, some y => (f x y).getD false | _, _ => false)) = c := by
      have z : (vs.all fun p => (valueAt ws p.1).isSome && (match lkK xs p.1, lkK ys p.1 with | some x, some y => (f x y).getD false | _, _ => false)) = ((vs.map (·.1)).all fun k => (valueAt ws k).isSome && (match lkK xs k, lkK ys k with | some x, some y => (f x y).getD false | _, _ => false)) := by rw [List.all_map]; rfl
      rw [z, hk, List.all_map, ← k1]
      rw [Bool.eq_iff_iff, List.all_eq_true, List.all_eq_true]
      have each : ∀ p ∈ xs, ((fun k => (valueAt ws k).isSome && (match lkK xs k, lkK ys k with | some x, some y => (f x y).getD false | _, _ => false)) ∘ fun x => x.1) p = (match lkK ys p.1 with | some y => (f p.2 y).getD false | none => false) := by
        intro p hp
        have lx : lkK xs p.1 = some p.2 := lk_mem (k := p.1) (v := p.2) nx hp
        have same : (valueAt ws p.1).isSome = (lkK ys p.1).isSome := by
          rcases lk_pair (k := p.1) ky with ⟨r1, r2⟩ | ⟨u2, v2, r1, r2, r3⟩ <;> rcases lk_pair (k := p.1) hy with ⟨t1, t2⟩ | ⟨z, u3, t1, t2, t3⟩
          · unfold valueAt lkK; rw [r2, t1]; rfl
          · rw [r1] at t2; cases t2
          · rw [r1] at t2; cases t2
          · unfold valueAt lkK; rw [r2, t1]; rfl
        simp only [Function.comp, lx, same]
        cases lkK ys p.1 <;> simp
      constructor
      · intro h p hp; rw [← each p hp]; exact h p hp
      · intro h p hp; rw [each p hp]; exact h p hp
    rw [hA, l1, l2, show (xs.length == ys.length) = decide (xs.length = ys.length) from by rw [Bool.eq_iff_iff]; simp]
theorem eqH_tree (I : Inv X pins σ H s) (Rl : Rel X.K ρ M H) : ∀ (n : Nat) (x y : D) (v w : V) (v' w' : Value) (b : Bool), Den X.K ρ H x v → Den X.K ρ H y w → RelV v v' → RelV w w' → eqH M n x y = some b → EqTree X.prog X.w s n v' w' b := by
  intro n
  induction n with
  | zero => intro x y v w v' w' b _ _ _ _ h; cases h
  | succ n ih =>
    intro x y v w v' w' b hx hy rx ry h
    have hsame := eqH_same I Rl (n + 1) x y
    have h0 := h
    unfold eqH at h
    cases ex : shOf M x with
    | none => simp [ex] at h
    | some shx =>
      cases ey : shOf M y with
      | none => simp [ex, ey] at h
      | some shy =>
        have px := shOf_v Rl hx ex
        have py' := shOf_v Rl hy ey
        rw [ex, ey] at h
        cases shx with
        | sc a =>
          cases shy with
          | sc c =>
            cases h
            obtain ⟨as, r1, p1, q1⟩ := reads_sc (h := s.heap) px.1 px.2 rx
            obtain ⟨bs, r2, p2, q2⟩ := reads_sc (h := s.heap) py'.1 py'.2 ry
            exact leaf_of fun A hu => eqAt_plain _ _ A s _ _ _ _ r1 r2 p1 p2 (by rw [q1, q2]; simpa using hu)
          | tup ys =>
            obtain ⟨_, _, rfl, g, _⟩ := py'; cases ry; cases h
            obtain ⟨_, _, p⟩ := shV_tupO I g
            exact leaf_of fun A hu => ((sc_beside px.1 px.2 rx).1 p hu).1
          | lst ys =>
            obtain ⟨_, _, rfl, g, _⟩ := py'; cases ry; cases h
            obtain ⟨_, _, p⟩ := shV_lstO I g
            exact leaf_of fun A hu => ((sc_beside px.1 px.2 rx).2.1 p hu).1
          | dct ys =>
            obtain ⟨_, _, rfl, g, _⟩ := py'; cases ry; cases h
            exact leaf_of fun A hu => ((sc_beside px.1 px.2 rx).2.2 (shV_dctO I g).2.2 hu).1
        | tup xs =>
          obtain ⟨a, us, rfl, h1, h2⟩ := px
          cases rx
          obtain ⟨its, rv, p⟩ := shV_tupO I h1
          cases shy with
          | sc c => cases h; exact leaf_of fun A hu => ((sc_beside py'.1 py'.2 ry).1 p hu).2.1
          | tup ys =>
            obtain ⟨a', ws, rfl, g1, g2⟩ := py'
            cases ry
            by_cases ne : a = a'
            · subst ne
              rw [hsame _ b hx hy h0]
              exact .same
            obtain ⟨jts, rw', q⟩ := shV_tupO I g1
            obtain ⟨c, e1, e2⟩ := Option.map_eq_some_iff.mp h
            subst e2
            obtain ⟨k1, k2⟩ := eqL_all e1
            have l1 : its.toArray.size = xs.length := by rw [dens_len h2, rv.length]; simp
            have l2 : jts.toArray.size = ys.length := by rw [dens_len g2, rw'.length]; simp
            have t := EqTree.tuples (prog := X.prog) (w := X.w) (s := s) (n := n) (e := ej (eqH M n) xs ys) ne p q (fun j j1 j2 => by
              obtain ⟨v0, z1, z2⟩ := vals_at rv j1
              obtain ⟨w0, y1, y2⟩ := vals_at rw' j2
              have jx : j < xs.length := by omega
              have jy : j < ys.length := by omega
              obtain ⟨v1, m1, m2⟩ := dens_get h2 (List.getElem?_eq_getElem jx)
              obtain ⟨w1, m3, m4⟩ := dens_get g2 (List.getElem?_eq_getElem jy)
              rw [z1] at m1; cases m1
              rw [y1] at m3; cases m3
              exact ih _ _ _ _ _ _ _ m2 m4 z2 y2 (k2 j _ _ (List.getElem?_eq_getElem jx) (List.getElem?_eq_getElem jy)))
            rw [l1, l2, k1] at t
            rw [show decide (xs.length = ys.length) = (xs.length == ys.length) from by rw [Bool.eq_iff_iff]; simp]
            exact t
          | lst ys =>
            obtain ⟨a', ws, rfl, g1, g2⟩ := py'; cases ry; cases h
            obtain ⟨_, _, q⟩ := shV_lstO I g1
            exact leaf_of fun A hu => EqAt.tuple_list p q hu
          | dct ys =>
            obtain ⟨a', ws, rfl, g1, g2⟩ := py'; cases ry; cases h
            exact leaf_of fun A hu => EqAt.tuple_dict p (shV_dctO I g1).2.2 hu
        | lst xs =>
          obtain ⟨a, us, rfl, h1, h2⟩ := px
          cases rx
          obtain ⟨its, rv, p⟩ := shV_lstO I h1
          cases shy with
          | sc c => cases h; exact leaf_of fun A hu => ((sc_beside py'.1 py'.2 ry).2.1 p hu).2.1
          | tup ys =>
            obtain ⟨a', ws, rfl, g1, g2⟩ := py'; cases ry; cases h
            obtain ⟨_, _, q⟩ := shV_tupO I g1
            exact leaf_of fun A hu => EqAt.list_tuple p q hu
          | lst ys =>
            obtain ⟨a', ws, rfl, g1, g2⟩ := py'
            cases ry
            by_cases ne : a = a'
            · subst ne
              rw [hsame _ b hx hy h0]
              exact .same
            obtain ⟨jts, rw', q⟩ := shV_lstO I g1
            have l1 : its.toArray.size = xs.length := by rw [dens_len h2, rv.length]; simp
            have l2 : jts.toArray.size = ys.length := by rw [dens_len g2, rw'.length]; simp
            simp only at h
            split at h
            · rename_i el
              obtain ⟨k1, k2⟩ := eqL_all h
              have t := EqTree.lists (prog := X.prog) (w := X.w) (s := s) (n := n) (e := ej (eqH M n) xs ys) ne p q (by omega) (fun j j1 j2 => by
                obtain ⟨v0, z1, z2⟩ := vals_at rv j1
                obtain ⟨w0, y1, y2⟩ := vals_at rw' j2
                have jx : j < xs.length := by omega
                have jy : j < ys.length := by omega
                obtain ⟨v1, m1, m2⟩ := dens_get h2 (List.getElem?_eq_getElem jx)
                obtain ⟨w1, m3, m4⟩ := dens_get g2 (List.getElem?_eq_getElem jy)
                rw [z1] at m1; cases m1
                rw [y1] at m3; cases m3
                exact ih _ _ _ _ _ _ _ m2 m4 z2 y2 (k2 j _ _ (List.getElem?_eq_getElem jx) (List.getElem?_eq_getElem jy)))
              rw [l1] at t
              rw [show min xs.length ys.length = xs.length from by omega] at k1
              rw [k1] at t
              exact t
            · rename_i el
              cases h
              exact EqTree.listsLen ne p q (by rw [l1, l2]; simpa using el)
          | dct ys =>
            obtain ⟨a', ws, rfl, g1, g2⟩ := py'; cases ry; cases h
            exact leaf_of fun A hu => EqAt.list_dict p (shV_dctO I g1).2.2 hu
        | dct xs =>
          obtain ⟨a, us, rfl, h1, h2⟩ := px
          cases rx
          obtain ⟨sm, ⟨vs, kx, dx⟩, ox⟩ := shV_dctO I h1
          cases shy with
          | sc c => cases h; exact leaf_of fun A hu => ((sc_beside py'.1 py'.2 ry).2.2 ox hu).2.1
          | tup ys =>
            obtain ⟨a', ws, rfl, g1, g2⟩ := py'; cases ry; cases h
            obtain ⟨_, _, q⟩ := shV_tupO I g1
            exact leaf_of fun A hu => EqAt.dict_tuple ox q hu
          | lst ys =>
            obtain ⟨a', ws, rfl, g1, g2⟩ := py'; cases ry; cases h
            obtain ⟨_, _, q⟩ := shV_lstO I g1
            exact leaf_of fun A hu => EqAt.dict_list ox q hu
          | dct ys =>
            obtain ⟨a', ws, rfl, g1, g2⟩ := py'
            cases ry
            by_cases ne : a = a'
            · subst ne
              rw [hsame _ b hx hy h0]
              exact .same
            obtain ⟨sm2, ⟨vs2, ky, dy⟩, oy⟩ := shV_dctO I g1
            obtain ⟨c, e1, e2⟩ := Option.map_eq_some_iff.mp h
            subst e2
            obtain ⟨g, hg, hb⟩ := dct_parts (X := X) (P := fun v y b => EqTree X.prog X.w s n v y b) (dct_nodup I h1) h2 g2 kx ky e1 (fun x y v w v' w' b => ih x y v w v' w' b)
            rw [← hb]
            exact EqTree.dicts ne sm sm2 dx dy hg
end

/-! ### the operators -/
section
variable {X : Cx}
/-- plain data, or as deep as it goes -/
def eqHD : Op2 := fun x y M => if likeD x y then .ok (.bl (deq x y)) M else match eqH M 60 x y with
  | some b => .ok (.bl b) M
  | none => .err
def rEqT (K : PySem.W.Frag) : R2 := fun v w H Q => ∃ ρ M x y b, Rel K ρ M H ∧ Den K ρ H x v ∧ Den K ρ H y w ∧ eqH M 60 x y = some b ∧ Q (.bl b) H
theorem op_eqT (hu : X.A.units + 100 < cLine) : OpR X (compareOp .Eq) (rEqT X.K) := by
  intro pins s σ H v w v' w' Q I rx ry ⟨ρ, M, x, y, b, Rl, hx, hy, h, q⟩
  have done : EP X pins σ Q (.bool b) s := ⟨.bl b, H, I, rfl, q⟩
  have hu0 : X.A.units < cLine := by omega
  have ih := fun (x y : D) (v w : V) (v' w' : Value) (b : Bool) => eqH_tree I Rl 59 x y v w v' w' b
  unfold eqH at h
  cases ex : shOf M x with
  | none => simp [ex] at h
  | some shx =>
    cases ey : shOf M y with
    | none => simp [ex, ey] at h
    | some shy =>
      have px := shOf_v Rl hx ex
      have py' := shOf_v Rl hy ey
      rw [ex, ey] at h
      cases shx with
      | sc a =>
        cases shy with
        | sc c =>
          cases h
          obtain ⟨as, r1, p1, q1⟩ := reads_sc (h := s.heap) px.1 px.2 rx
          obtain ⟨bs, r2, p2, q2⟩ := reads_sc (h := s.heap) py'.1 py'.2 ry
          exact eq_plain r1 r2 p1 p2 (by rw [q1, q2]; simpa using hu0) done
        | tup ys =>
          obtain ⟨_, _, rfl, g, _⟩ := py'; cases ry; cases h
          obtain ⟨_, _, p⟩ := shV_tupO I g
          exact ((sc_beside px.1 px.2 rx).1 p hu0).2.2.1 _ _ _ _ done
        | lst ys =>
          obtain ⟨_, _, rfl, g, _⟩ := py'; cases ry; cases h
          obtain ⟨_, _, p⟩ := shV_lstO I g
          exact ((sc_beside px.1 px.2 rx).2.1 p hu0).2.2.1 _ _ _ _ done
        | dct ys =>
          obtain ⟨_, _, rfl, g, _⟩ := py'; cases ry; cases h
          exact ((sc_beside px.1 px.2 rx).2.2 (shV_dctO I g).2.2 hu0).2.2.1 _ _ _ _ done
      | tup xs =>
        obtain ⟨a, us, rfl, h1, h2⟩ := px
        cases rx
        obtain ⟨its, rv, p⟩ := shV_tupO I h1
        cases shy with
        | sc c => cases h; exact ((sc_beside py'.1 py'.2 ry).1 p hu0).2.2.2 _ _ _ _ done
        | tup ys =>
          obtain ⟨a', ws, rfl, g1, g2⟩ := py'
          cases ry
          obtain ⟨jts, rw', q'⟩ := shV_tupO I g1
          obtain ⟨c, e1, e2⟩ := Option.map_eq_some_iff.mp h
          subst e2
          obtain ⟨k1, k2⟩ := eqL_all e1
          have l1 : its.toArray.size = xs.length := by rw [dens_len h2, rv.length]; simp
          have l2 : jts.toArray.size = ys.length := by rw [dens_len g2, rw'.length]; simp
          refine eq_tuplesT (n := 59) (e := ej (eqH M 59) xs ys) p q' (fun j j1 j2 => ?_) (by omega) ?_
          · obtain ⟨v0, z1, z2⟩ := vals_at rv j1
            obtain ⟨w0, y1, y2⟩ := vals_at rw' j2
            have jx : j < xs.length := by omega
            have jy : j < ys.length := by omega
            obtain ⟨v1, m1, m2⟩ := dens_get h2 (List.getElem?_eq_getElem jx)
            obtain ⟨w1, m3, m4⟩ := dens_get g2 (List.getElem?_eq_getElem jy)
            rw [z1] at m1; cases m1
            rw [y1] at m3; cases m3
            exact ih _ _ _ _ _ _ _ m2 m4 z2 y2 (k2 j _ _ (List.getElem?_eq_getElem jx) (List.getElem?_eq_getElem jy))
          · rw [l1, l2, k1]
            rw [show (xs.length == ys.length) = decide (xs.length = ys.length) from by rw [Bool.eq_iff_iff]; simp]
            exact done
        | lst ys =>
          obtain ⟨a', ws, rfl, g1, g2⟩ := py'; cases ry; cases h
          obtain ⟨_, _, q'⟩ := shV_lstO I g1
          exact RcAt.tuple_list p q' hu0 _ _ _ _ done
        | dct ys =>
          obtain ⟨a', ws, rfl, g1, g2⟩ := py'; cases ry; cases h
          exact RcAt.tuple_dict p (shV_dctO I g1).2.2 hu0 _ _ _ _ done
      | lst xs =>
        obtain ⟨a, us, rfl, h1, h2⟩ := px
        cases rx
        obtain ⟨its, rv, p⟩ := shV_lstO I h1
        cases shy with
        | sc c => cases h; exact ((sc_beside py'.1 py'.2 ry).2.1 p hu0).2.2.2 _ _ _ _ done
        | tup ys =>
          obtain ⟨a', ws, rfl, g1, g2⟩ := py'; cases ry; cases h
          obtain ⟨_, _, q'⟩ := shV_tupO I g1
          exact RcAt.list_tuple p q' hu0 _ _ _ _ done
        | lst ys =>
          obtain ⟨a', ws, rfl, g1, g2⟩ := py'
          cases ry
          obtain ⟨jts, rw', q'⟩ := shV_lstO I g1
          have l1 : its.toArray.size = xs.length := by rw [dens_len h2, rv.length]; simp
          have l2 : jts.toArray.size = ys.length := by rw [dens_len g2, rw'.length]; simp
          simp only at h
          split at h
          · rename_i el
            obtain ⟨k1, k2⟩ := eqL_all h
            refine eq_listsT (n := 59) (e := ej (eqH M 59) xs ys) p q' (by omega) (fun j j1 j2 => ?_) (by omega) ?_
            · obtain ⟨v0, z1, z2⟩ := vals_at rv j1
              obtain ⟨w0, y1, y2⟩ := vals_at rw' j2
              have jx : j < xs.length := by omega
              have jy : j < ys.length := by omega
              obtain ⟨v1, m1, m2⟩ := dens_get h2 (List.getElem?_eq_getElem jx)
              obtain ⟨w1, m3, m4⟩ := dens_get g2 (List.getElem?_eq_getElem jy)
              rw [z1] at m1; cases m1
              rw [y1] at m3; cases m3
              exact ih _ _ _ _ _ _ _ m2 m4 z2 y2 (k2 j _ _ (List.getElem?_eq_getElem jx) (List.getElem?_eq_getElem jy))
            · rw [show min xs.length ys.length = xs.length from by omega] at k1
              rw [l1, k1]
              exact done
          · rename_i el
            cases h
            exact RcAt.lists_lengths p q' (by rw [l1, l2]; simpa using el) hu0 _ _ _ _ done
        | dct ys =>
          obtain ⟨a', ws, rfl, g1, g2⟩ := py'; cases ry; cases h
          exact RcAt.list_dict p (shV_dctO I g1).2.2 hu0 _ _ _ _ done
      | dct xs =>
        obtain ⟨a, us, rfl, h1, h2⟩ := px
        cases rx
        obtain ⟨sm, ⟨vs, kx, dx⟩, ox⟩ := shV_dctO I h1
        cases shy with
        | sc c => cases h; exact ((sc_beside py'.1 py'.2 ry).2.2 ox hu0).2.2.2 _ _ _ _ done
        | tup ys =>
          obtain ⟨a', ws, rfl, g1, g2⟩ := py'; cases ry; cases h
          obtain ⟨_, _, q'⟩ := shV_tupO I g1
          exact RcAt.dict_tuple ox q' hu0 _ _ _ _ done
        | lst ys =>
          obtain ⟨a', ws, rfl, g1, g2⟩ := py'; cases ry; cases h
          obtain ⟨_, _, q'⟩ := shV_lstO I g1
          exact RcAt.dict_list ox q' hu0 _ _ _ _ done
        | dct ys =>
          obtain ⟨a', ws, rfl, g1, g2⟩ := py'
          cases ry
          obtain ⟨sm2, ⟨vs2, ky, dy⟩, oy⟩ := shV_dctO I g1
          obtain ⟨c, e1, e2⟩ := Option.map_eq_some_iff.mp h
          subst e2
          obtain ⟨g, hg, hb⟩ := dct_parts (X := X) (P := fun v y b => EqTree X.prog X.w s 59 v y b) (dct_nodup I h1) h2 g2 kx ky e1 ih
          refine eq_dictsT (n := 59) sm sm2 dx dy hg (by omega) ?_
          rw [hb]
          exact done
theorem q_eqH : Quiet2 eqHD := by
  intro x y M c fs M' e
  unfold eqHD at e
  (repeat' split at e) <;> cases e
theorem o_eqH (c : Cf X) : Op2R X (compareOp .Eq) eqHD := by
  intro ρ M H x y v w Q Rl dx dy h
  unfold eqHD at h
  split at h
  · rename_i z
    exact o_eq c ρ M H x y v w Q Rl dx dy (by unfold eqD; rw [if_pos z]; exact h)
  · split at h
    · rename_i b e
      exact ⟨_, op_eqT c.hu, ρ, M, x, y, b, Rl, dx, dy, e, here Rl h (den_bl.mpr rfl)⟩
    · exact h.elim

/-- among a list's items, as deep as it goes -/
def anyH (M : MH) (x : D) : List D → Option Bool
  | [] => some false
  | d :: r => match eqH M 60 d x, anyH M x r with
    | some a, some b => some (a || b)
    | _, _ => none
theorem anyH_any {M : MH} {x : D} : ∀ {ds : List D} {b : Bool}, anyH M x ds = some b → ((List.range ds.length).any fun j => match ds[j]? with | some d => (eqH M 60 d x).getD false | none => false) = b ∧ ∀ d ∈ ds, ∃ c, eqH M 60 d x = some c
  | [], b, h => by
    unfold anyH at h
    cases h
    exact ⟨rfl, fun d hd => by cases hd⟩
  | d :: r, b, h => by
    unfold anyH at h
    split at h
    · rename_i p q e1 e2
      cases h
      obtain ⟨i1, i2⟩ := anyH_any e2
      refine ⟨?_, fun z hz => ?_⟩
      · rw [List.length_cons, List.range_succ_eq_map, List.any_cons, List.any_map]
        have w : ((fun j => match (d :: r)[j]? with | some d => (eqH M 60 d x).getD false | none => false) ∘ Nat.succ) = fun j => match r[j]? with | some d => (eqH M 60 d x).getD false | none => false := by funext j; simp [Function.comp]
        rw [w, i1]
        simp [e1]
      · rcases List.mem_cons.mp hz with rfl | hz
        · exact ⟨p, e1⟩
        · exact i2 z hz
    · cases h
def rInT (K : PySem.W.Frag) (neg : Bool) : R2 := fun v w H Q => ∃ ρ M x ds a xs b, Rel K ρ M H ∧ Den K ρ H x v ∧ w = .ref a ∧ SqL K H a xs ∧ Dens K ρ H ds xs ∧ anyH M x ds = some b ∧ Q (.bl (b != neg)) H
theorem inT_items {pins : List (Addr × Obj)} {σ : L2.St} {H : Hp} {s : Shared} {ρ : Rho} {M : MH} (hu : X.A.units + 100 < cLine) (I : Inv X pins σ H s) (Rl : Rel X.K ρ M H) {x : D} {v : V} {v' : Value} {ds : List D} {a : Addr} {xs : List V} {b : Bool} (hx : Den X.K ρ H x v) (rx : RelV v v') (h1 : SqL X.K H a xs) (h2 : Dens X.K ρ H ds xs) (h : anyH M x ds = some b) :
    ∃ (its : Array Value) (e : Nat → Bool), s.heap.IsList a its ∧ (∀ j (h1 : j < its.size), EqIn X.prog X.w X.A.in1 s its[j] v' (e j)) ∧ (List.range its.size).any e = b := by
  obtain ⟨its, rv, p⟩ := shV_lstO I h1
  obtain ⟨k1, k2⟩ := anyH_any h
  have l1 : its.toArray.size = ds.length := by rw [dens_len h2, rv.length]; simp
  refine ⟨its.toArray, _, p, fun j hj => ?_, by rw [l1]; exact k1⟩
  obtain ⟨v0, z1, z2⟩ := vals_at rv hj
  have jx : j < ds.length := by omega
  obtain ⟨v1, m1, m2⟩ := dens_get h2 (List.getElem?_eq_getElem jx)
  rw [z1] at m1; cases m1
  obtain ⟨c, hc⟩ := k2 ds[j] (List.getElem_mem jx)
  simp only [List.getElem?_eq_getElem jx, hc, Option.getD_some]
  exact (eqH_tree I Rl 60 _ _ _ _ _ _ _ m2 hx z2 rx hc).at X.A.in1 (by show X.A.units + 1 + 60 < cLine; omega)
theorem op_inT (hu : X.A.units + 100 < cLine) : OpR X (compareOp .In) (rInT X.K false) := by
  intro pins s σ H v w v' w' Q I rx ry ⟨ρ, M, x, ds, a, xs, b, Rl, hx, hw, h1, h2, h, q⟩
  subst hw
  cases ry
  obtain ⟨its, e, p, he, hb⟩ := inT_items hu I Rl hx rx h1 h2 h
  refine in_listI e p he ?_
  rw [hb]
  exact ⟨.bl b, H, I, rfl, by simpa using q⟩
theorem op_notInT (hu : X.A.units + 100 < cLine) : OpR X (compareOp .NotIn) (rInT X.K true) := by
  intro pins s σ H v w v' w' Q I rx ry ⟨ρ, M, x, ds, a, xs, b, Rl, hx, hw, h1, h2, h, q⟩
  subst hw
  cases ry
  obtain ⟨its, e, p, he, hb⟩ := inT_items hu I Rl hx rx h1 h2 h
  refine notIn_listI e p he ?_
  rw [hb]
  exact ⟨.bl (!b), H, I, rfl, by simpa using q⟩
/-- as inD; among lists of anything -/
def inHD (neg : Bool) : Op2 := fun x y M => match inD neg x y M with
  | .ok d M1 => .ok d M1
  | _ => match shOf M y with
    | some (.lst ds) => match anyH M x ds with
      | some b => .ok (.bl (b != neg)) M
      | none => .err
    | _ => .err
theorem q_inH {neg : Bool} : Quiet2 (inHD neg) := by
  intro x y M c fs M' e
  unfold inHD at e
  (repeat' split at e) <;> cases e
theorem o_inHX (c : Cf X) (neg : Bool) (f : Value → Value → Sem Value) (h0 : Op2R X f (inD neg)) (hT : OpR X f (rInT X.K neg)) : Op2R X f (inHD neg) := by
  intro ρ M H x y v w Q Rl dx dy h
  unfold inHD at h
  split at h
  · rename_i d M1 e
    exact h0 ρ M H x y v w Q Rl dx dy (by rw [e]; exact h)
  · split at h
    · rename_i ds e
      obtain ⟨a, xs, hw, h1, h2⟩ := shOf_v Rl dy e
      split at h
      · rename_i b eb
        exact ⟨_, hT, ρ, M, x, ds, a, xs, b, Rl, dx, hw, h1, h2, eb, here Rl h (den_bl.mpr rfl)⟩
      · exact h.elim
    · exact h.elim
theorem o_inH (c : Cf X) : Op2R X (compareOp .In) (inHD false) := o_inHX c false _ (o_in c) (op_inT c.hu)
theorem o_notInH (c : Cf X) : Op2R X (compareOp .NotIn) (inHD true) := o_inHX c true _ (o_notIn c) (op_notInT c.hu)
end

/-! ### != -/
section
variable {X : Cx}
def sameKind : Sh → Sh → Bool
  | .tup _, .tup _ => true
  | .lst _, .lst _ => true
  | .dct _, .dct _ => true
  | _, _ => false
def likeK (M : MH) (x y : D) : Bool := match shOf M x, shOf M y with
  | some a, some b => sameKind a b
  | _, _ => false
def neHD : Op2 := fun x y M => if likeD x y then .ok (.bl (!deq x y)) M else if likeK M x y then (match eqH M 60 x y with
  | some b => .ok (.bl (!b)) M
  | none => .err) else .err
def rNeT (K : PySem.W.Frag) : R2 := fun v w H Q => ∃ ρ M x y b, Rel K ρ M H ∧ Den K ρ H x v ∧ Den K ρ H y w ∧ likeK M x y = true ∧ eqH M 60 x y = some b ∧ Q (.bl (!b)) H
theorem op_neT (hu : X.A.units + 100 < cLine) : OpR X (compareOp .NotEq) (rNeT X.K) := by
  intro pins s σ H v w v' w' Q I rx ry ⟨ρ, M, x, y, b, Rl, hx, hy, hk, h, q⟩
  have done : EP X pins σ Q (.bool (!b)) s := ⟨.bl (!b), H, I, rfl, q⟩
  have hu0 : X.A.units < cLine := by omega
  have ih := fun (x y : D) (v w : V) (v' w' : Value) (b : Bool) => eqH_tree I Rl 59 x y v w v' w' b
  have at1 : ∀ {a c : Value} {b : Bool}, EqTree X.prog X.w s 59 a c b → EqIn X.prog X.w X.A.in1 s a c b := fun t => t.at X.A.in1 (by show X.A.units + 1 + 59 < cLine; omega)
  unfold eqH at h
  unfold likeK at hk
  cases ex : shOf M x with
  | none => simp [ex] at h
  | some shx =>
    cases ey : shOf M y with
    | none => simp [ex, ey] at h
    | some shy =>
      have px := shOf_v Rl hx ex
      have py' := shOf_v Rl hy ey
      rw [ex, ey] at h hk
      cases shx with
      | sc a => cases shy <;> cases hk
      | tup xs =>
        obtain ⟨a, us, rfl, h1, h2⟩ := px
        cases rx
        obtain ⟨its, rv, p⟩ := shV_tupO I h1
        cases shy with
        | sc c => cases hk
        | lst ys => cases hk
        | dct ys => cases hk
        | tup ys =>
          obtain ⟨a', ws, rfl, g1, g2⟩ := py'
          cases ry
          obtain ⟨jts, rw', q'⟩ := shV_tupO I g1
          obtain ⟨c, e1, e2⟩ := Option.map_eq_some_iff.mp h
          subst e2
          obtain ⟨k1, k2⟩ := eqL_all e1
          have l1 : its.toArray.size = xs.length := by rw [dens_len h2, rv.length]; simp
          have l2 : jts.toArray.size = ys.length := by rw [dens_len g2, rw'.length]; simp
          refine ne_tuplesI (e := ej (eqH M 59) xs ys) p q' hu0 (fun j j1 j2 => ?_) ?_
          · obtain ⟨v0, z1, z2⟩ := vals_at rv j1
            obtain ⟨w0, y1, y2⟩ := vals_at rw' j2
            have jx : j < xs.length := by omega
            have jy : j < ys.length := by omega
            obtain ⟨v1, m1, m2⟩ := dens_get h2 (List.getElem?_eq_getElem jx)
            obtain ⟨w1, m3, m4⟩ := dens_get g2 (List.getElem?_eq_getElem jy)
            rw [z1] at m1; cases m1
            rw [y1] at m3; cases m3
            exact at1 (ih _ _ _ _ _ _ _ m2 m4 z2 y2 (k2 j _ _ (List.getElem?_eq_getElem jx) (List.getElem?_eq_getElem jy)))
          · rw [l1, l2, k1]
            rw [show (xs.length == ys.length) = decide (xs.length = ys.length) from by rw [Bool.eq_iff_iff]; simp]
            exact done
      | lst xs =>
        obtain ⟨a, us, rfl, h1, h2⟩ := px
        cases rx
        obtain ⟨its, rv, p⟩ := shV_lstO I h1
        cases shy with
        | sc c => cases hk
        | tup ys => cases hk
        | dct ys => cases hk
        | lst ys =>
          obtain ⟨a', ws, rfl, g1, g2⟩ := py'
          cases ry
          obtain ⟨jts, rw', q'⟩ := shV_lstO I g1
          have l1 : its.toArray.size = xs.length := by rw [dens_len h2, rv.length]; simp
          have l2 : jts.toArray.size = ys.length := by rw [dens_len g2, rw'.length]; simp
          simp only at h
          split at h
          · rename_i el
            obtain ⟨k1, k2⟩ := eqL_all h
            refine ne_listsI (e := ej (eqH M 59) xs ys) p q' (by omega) hu0 (fun j j1 j2 => ?_) ?_
            · obtain ⟨v0, z1, z2⟩ := vals_at rv j1
              obtain ⟨w0, y1, y2⟩ := vals_at rw' j2
              have jx : j < xs.length := by omega
              have jy : j < ys.length := by omega
              obtain ⟨v1, m1, m2⟩ := dens_get h2 (List.getElem?_eq_getElem jx)
              obtain ⟨w1, m3, m4⟩ := dens_get g2 (List.getElem?_eq_getElem jy)
              rw [z1] at m1; cases m1
              rw [y1] at m3; cases m3
              exact at1 (ih _ _ _ _ _ _ _ m2 m4 z2 y2 (k2 j _ _ (List.getElem?_eq_getElem jx) (List.getElem?_eq_getElem jy)))
            · rw [show min xs.length ys.length = xs.length from by omega] at k1
              rw [l1, k1]
              exact done
          · rename_i el
            cases h
            exact RcNeAt.lists_lengths p q' (by rw [l1, l2]; simpa using el) hu0 _ _ _ _ done
      | dct xs =>
        obtain ⟨a, us, rfl, h1, h2⟩ := px
        cases rx
        obtain ⟨sm, ⟨vs, kx, dx⟩, ox⟩ := shV_dctO I h1
        cases shy with
        | sc c => cases hk
        | tup ys => cases hk
        | lst ys => cases hk
        | dct ys =>
          obtain ⟨a', ws, rfl, g1, g2⟩ := py'
          cases ry
          obtain ⟨sm2, ⟨vs2, ky, dy⟩, oy⟩ := shV_dctO I g1
          obtain ⟨c, e1, e2⟩ := Option.map_eq_some_iff.mp h
          subst e2
          obtain ⟨g, hg, hb⟩ := dct_parts (X := X) (P := fun v y b => EqTree X.prog X.w s 59 v y b) (dct_nodup I h1) h2 g2 kx ky e1 ih
          refine ne_dictsI (r := vs.all fun p => (valueAt vs2 p.1).isSome && g p.1) sm sm2 dx dy hu0 (fun _ => KeqHitsIn.of _ fun k v y hm hv => at1 (hg k v y hm hv)) ?_
          rw [hb]
          exact done
theorem q_neH : Quiet2 neHD := by
  intro x y M c fs M' e
  unfold neHD at e
  (repeat' split at e) <;> cases e
theorem o_neH (c : Cf X) : Op2R X (compareOp .NotEq) neHD := by
  intro ρ M H x y v w Q Rl dx dy h
  unfold neHD at h
  split at h
  · rename_i z
    exact o_ne c ρ M H x y v w Q Rl dx dy (by unfold neD; rw [if_pos z]; exact h)
  · split at h
    · rename_i hk
      split at h
      · rename_i b e
        exact ⟨_, op_neT c.hu, ρ, M, x, y, b, Rl, dx, dy, hk, e, here Rl h (den_bl.mpr rfl)⟩
      · exact h.elim
    · exact h.elim
end
end Mi

end

section
/-! Mi, part 46: a block that goes on by itself: reckoned with no cells, of the slots only some plain ones known. -/
namespace Mi
open PySem PySem.Spec PyProof.Rows L2
/-- only these slots, where they hold no cell -/
def wipeG (js : List Nat) : Nat → En → En
  | _, [] => []
  | i, o :: r => (match o with
    | some d => if js.contains i && cln true d then some d else none
    | none => none) :: wipeG js (i + 1) r
/-- the slots without cells -/
def outG : En → En
  | [] => []
  | o :: r => (match o with
    | some d => if cln false d then some d else none
    | none => none) :: outG r
def cFr (js : List Nat) (b : MS) : MS := fun env M => match b (wipeG js 0 env) [] with
  | .nx env' _ => .nx (outG env') M
  | .ret d _ => if cln false d = true then .ret d M else .err
  | .bk env' _ => .bk (outG env') M
  | .ct env' _ => .ct (outG env') M
  | .exc c fs env' _ => if clnX fs = true then .exc c fs (outG env') M else .err
  | .err => .err
theorem wipeG_len (js : List Nat) : ∀ (env : En) (i : Nat), (wipeG js i env).length = env.length
  | [], _ => rfl
  | o :: r, i => by unfold wipeG; rw [List.length_cons, List.length_cons, wipeG_len js r]
theorem wipeG_get (js : List Nat) : ∀ (env : En) (i j : Nat) (d : D), (wipeG js i env)[j]? = some (some d) → env[j]? = some (some d) ∧ cln true d = true
  | [], _, _, _, h => by unfold wipeG at h; cases h
  | o :: r, i, 0, d, h => by
    unfold wipeG at h
    rw [List.getElem?_cons_zero] at h
    cases o with
    | none => cases h
    | some e =>
      simp only at h
      split at h
      · rename_i q
        cases h
        rw [Bool.and_eq_true] at q
        exact ⟨rfl, q.2⟩
      · cases h
  | o :: r, i, j + 1, d, h => by
    unfold wipeG at h
    rw [List.getElem?_cons_succ] at h ⊢
    exact wipeG_get js r (i + 1) j d h
theorem outG_len : ∀ env : En, (outG env).length = env.length
  | [] => rfl
  | o :: r => by unfold outG; rw [List.length_cons, List.length_cons, outG_len r]
theorem outG_get : ∀ (env : En) (j : Nat) (d : D), (outG env)[j]? = some (some d) → env[j]? = some (some d) ∧ cln false d = true
  | [], _, _, h => by unfold outG at h; cases h
  | o :: r, 0, d, h => by
    unfold outG at h
    rw [List.getElem?_cons_zero] at h
    cases o with
    | none => cases h
    | some e =>
      simp only at h
      split at h
      · rename_i q
        cases h
        exact ⟨rfl, q⟩
      · cases h
  | o :: r, j + 1, d, h => by
    unfold outG at h
    rw [List.getElem?_cons_succ] at h ⊢
    exact outG_get r j d h
section
variable {K : PySem.W.Frag} {ρ ρ1 : Rho} {M : MH} {H H1 : Hp}
theorem enr_in {js : List Nat} {env : En} {σ : L2.St} (e : EnR K ρ H env σ) : EnR K (ρ.bare H) H (wipeG js 0 env) σ :=
  ⟨(wipeG_len js env 0).trans e.len, fun i d h => let ⟨h1, h2⟩ := wipeG_get js env 0 i d h; let ⟨v, g1, g2⟩ := e.get i d h1; ⟨v, g1, Den.to (b := true) (fun _ _ => ls_in) (fun _ => rfl) _ _ h2 g2⟩⟩
theorem enr_out (R : Rel K ρ M H) (S : Stp (ρ.bare H) H ρ1 H1) {env : En} {σ : L2.St} (e : EnR K ρ1 H1 env σ) : EnR K ρ H1 (outG env) σ :=
  ⟨(outG_len env).trans e.len, fun i d h => let ⟨h1, h2⟩ := outG_get env i d h; let ⟨v, g1, g2⟩ := e.get i d h1; ⟨v, g1, Den.to (b := false) (fun _ _ => ls_out R S) (fun z => nomatch z) _ _ h2 g2⟩⟩
theorem oks_fr {W : WX} {D : Ends} {js : List Nat} {b : MS} {env : En} (R : Rel K ρ M H) (h : OkS K ρ H W D (cFr js b env M)) : OkS K (ρ.bare H) H W D (b (wipeG js 0 env) []) := by
  unfold cFr at h
  cases e : b (wipeG js 0 env) [] with
  | err => rw [e] at h; exact h
  | nx env' M1 => rw [e] at h; exact fun ρ1 H1 σ' S R1 E1 => h ρ H1 σ' (stp_bare S) (R.out S) (enr_out R S E1)
  | bk env' M1 => rw [e] at h; exact fun ρ1 H1 σ' S R1 E1 => h ρ H1 σ' (stp_bare S) (R.out S) (enr_out R S E1)
  | ct env' M1 => rw [e] at h; exact fun ρ1 H1 σ' S R1 E1 => h ρ H1 σ' (stp_bare S) (R.out S) (enr_out R S E1)
  | ret d M1 =>
    rw [e] at h
    simp only at h
    split at h
    · rename_i c
      exact fun ρ1 H1 v S R1 dv => h ρ H1 v (stp_bare S) (R.out S) (Den.to (b := false) (fun _ _ => ls_out R S) (fun z => nomatch z) _ _ c dv)
    · exact h.elim
  | exc c fs env' M1 =>
    rw [e] at h
    simp only at h
    split at h
    · rename_i cf
      intro ρ1 H1 d σ' cv cn S R1 x E1
      refine h ρ H1 d σ' cv cn (stp_bare S) (R.out S) ?_ (enr_out R S E1)
      cases fs with
      | none => exact x
      | some fs =>
        obtain ⟨a, gs, h1, h2, h3⟩ := x
        exact ⟨a, gs, h1, h2, denP_to (fun _ _ => ls_out R S) cf h3⟩
    · exact h.elim
end
section
variable {X : Cx} {W : WX}
theorem b_fr {sts : List Stmt} {b : MS} (js : List Nat) (h : SB X W sts b) : SB X W sts (cFr js b) := by
  refine pss_imp h fun D σ H q => ?_
  obtain ⟨ρ, M, env, R, E, ok⟩ := q
  exact ⟨ρ.bare H, [], wipeG js 0 env, R.bare, enr_in E, oks_fr R ok⟩
theorem c_fr {st : Stmt} {b : MS} (js : List Nat) (h : SS X W st b) : SS X W st (cFr js b) := by
  refine ps_imp h fun D σ H q => ?_
  obtain ⟨ρ, M, env, R, E, ok⟩ := q
  exact ⟨ρ.bare H, [], wipeG js 0 env, R.bare, enr_in E, oks_fr R ok⟩
end
end Mi

end

section
/-! Mi, part 47: enumerate over a list; the sum of a list that is a cell. -/
namespace Mi
open PySem PySem.Spec PyProof.Rows L2
def sumHD : OpN := fun xs M => match xs with
  | [.ref l] => match M[l]? with
    | some (.lst ds) => match intsD ds with
      | some ns => .ok (.int ns.sum) M
      | none => .err
    | _ => .err
  | xs => sumD xs M
theorem q_sumH : QuietN sumHD := by
  intro x M c fs M' e
  unfold sumHD at e
  split at e
  · (repeat' split at e) <;> cases e
  · exact q_sum _ _ _ _ _ e
section
variable {X : Cx}
theorem o_sumH (hc : X.calm = true) : OpNR X (.builtin "sum") sumHD := by
  intro ρ M H xs vs Q Rl dv h
  unfold sumHD at h
  split at h
  · obtain ⟨v, rfl, d⟩ := dens_one dv
    split at h
    · rename_i ds hm
      obtain ⟨a, ys, rfl, hs, hd⟩ := cell_lst Rl d hm
      split at h
      · rename_i ns e
        rw [intsD_eq e] at hd
        rw [dens_ints_inv hd] at hs
        exact ⟨_, cr_sum hc, a, ns, rfl, SqL.of hs, here Rl h (den_int.mpr rfl)⟩
      · exact h.elim
    · exact h.elim
  · exact o_sum hc ρ M H _ vs Q Rl dv h
end
def enumAD : List D → MH → R (List D) := fun xs M => match xs with
  | [.lst ds] => .ok (enumL 0 ds) M
  | xs => enumD 0 xs M
theorem wk_enumL {K : PySem.W.Frag} {ρ : Rho} {M : MH} {H : Hp} {a : Addr} {ds : List D} {xs : List V} (Rl : Rel K ρ M H) (hs : LsV K ρ H a xs) (hd : Dens K ρ H ds xs) : Wk K ρ H (Ite K a) (enumL 0 ds) where
  goes := fun i ρ' M' H' hi R' S _ => by
    rw [enumL_len, hd.length] at hi
    exact ⟨xs, xs[i], (hs.tr S).sq, by simp [hi]⟩
  stops := fun ρ' M' H' R' S _ => ⟨xs, (hs.tr S).sq, by rw [enumL_len, hd.length]; exact Nat.le_refl _⟩
  yields := fun i ρ' M' H' x H'' d hd' R' S _ y => by
    obtain ⟨e, h1, h2⟩ := enumL_get hd'
    subst h2
    obtain ⟨v, h3, h4⟩ := hd.get h1
    obtain ⟨T, z, rfl, hn, rfl, hz⟩ := y
    have e2 := hz xs (hs.tr S).sq
    rw [h3] at e2; cases e2
    have h5 := Den.tr S _ _ h4
    refine ⟨R'.alloc hn, Stp.alloc hn, den_newT R' hn (dens_cons.mpr ⟨_, _, rfl, den_int.mpr ?_, dens_cons.mpr ⟨_, _, rfl, h5, dens_nil.mpr rfl⟩⟩)⟩
    rw [Int.zero_add]
section
variable {X : Cx} {W : WX}
theorem enum_oA {ds : List D} {vs : List V} {ρ : Rho} {M : MH} {H : Hp} {Q : It → Hp → Prop} {Wf : Value → Option Addr → Hp → Prop} (R1 : Rel X.K ρ M H) (dv : Dens X.K ρ H ds vs) (q : Ok X.K ρ H (DnI X.K) Wf Q (enumAD ds M)) :
    (∃ a xs, vs = [.ref a] ∧ SqT X.K H a xs ∧ Q (iteT X.K a 0) H) ∨ ∃ a xs, vs = [.ref a] ∧ SqL X.K H a xs ∧ Q (Ite X.K a) H := by
  unfold enumAD at q
  split at q
  · obtain ⟨v, rfl, d⟩ := dens_one dv
    obtain ⟨a, xs, rfl, hs, hd⟩ := den_lst.mp d
    exact .inr ⟨a, xs, rfl, hs.sq, q ρ H _ (Stp.refl (K := X.K) (M := M)) R1 (wk_enumL R1 hs hd)⟩
  · exact .inl (enum_o R1 dv q)
/-- over enumerate(t), a tuple or a list that stays -/
theorem i_enumA {e : Expr} {ma : MA} {p pos tpos : Pos} {elts : List Expr} {kk : Nat} (hm : X.mg "enumerate" = none) (ha : SA X W [e] ma) (hg : Gl X "enumerate" := by rfl) (hs : starEach [e] X.env = (false, eval e X.env) :: starEach [] X.env := by rfl) :
    SI X W (.Tuple elts kk tpos) (.Call (.Name "enumerate" p) [e] [] pos) (mI enumAD ma) := by
  refine ⟨fun pins s σ H Rr I h => ?_⟩
  refine Call_ (ld_blt I hg hm boot_enumerate (PyProof.Rows.callWith_type1 (thn (ha.run pos pins s σ H (fun vs H1 => (∃ a xs, vs = [.ref a] ∧ SqT X.K H1 a xs ∧ Rr (iteT X.K a 0) H1) ∨ ∃ a xs, vs = [.ref a] ∧ SqL X.K H1 a xs ∧ Rr (Ite X.K a) H1) I ?_) fun us s1 ⟨vs, H1, I1, r1, q1⟩ => ?_) hs rfl))
  · obtain ⟨ρ, M, env, Rl, E, h⟩ := h
    exact ⟨ρ, M, env, Rl, E, h.bind fun ds M1 ρ1 H1 vs _ S R1 dv q1 => enum_oA R1 dv q1⟩
  rcases q1 with ⟨a, xs, ex, hq, q⟩ | ⟨a, xs, ex, hq, q⟩ <;> (subst ex; rw [Vals.ref1 r1])
  · obtain ⟨its, ht⟩ := tup_is I1 hq
    exact enum_new (begins_tuple a its) ht fun h' he hit hk => wpAny_pyIter_enum he (call_enum I1 hq q h' he hit hk)
  · obtain ⟨its, rv, p', hz⟩ := I1.list hq
    refine call_enumerate_list p'.isList fun h' he hit hsz hk => wpAny_pyIter_enum he ?_
    have I2 : L2.Inv X pins σ H1 { s1 with heap := h' } := I1.kept (t' := s1.toks) hk
    refine ⟨s1.heap.objs.size + 1, [s1.heap.objs.size + 1, s1.heap.objs.size], _, _, H1, rfl, I2, turn_enum a (s1.heap.objs.size + 1) s1.heap.objs.size, ⟨⟨.none, he⟩, hit, Nat.succ_ne_self _⟩, fun b hb => ?_, q⟩
    have e' : b = s1.heap.objs.size + 1 ∨ b = s1.heap.objs.size := by simpa using hb
    have hle : s1.heap.objs.size ≤ b := by rcases e' with z | z <;> (rw [z]; omega)
    exact I1.fpOk hle (I1.hok.fresh hle)
end
end Mi

end

section
/-! Mi, part 48: a list so many times. -/
namespace Mi
open PySem PySem.Spec PyProof.Rows L2
open AutoSeq1 (wpAny_loadPart')
theorem list_mulW {l : Addr} {its : List Value} {n : Nat} {dd : Option Addr} {sl : Array (Option Value)} {k : Int} {t : Tok} (f1 : ¬ (!Builtin.List.listFitsIndex k) = true) (f2 : ¬ its.toArray.size * k.toNat > (2 ^ 63 - 1) / 8) (f3 : ¬ Builtin.List.listTooLong (its.toArray.size * k.toNat) = true) :
    Meets (Builtin.«list.__mul__» ⟨[.ref l, .int k t], []⟩) (fun _ R s => s.heap.get? l = some { cls := .type "list", dict := dd, data := .seq its.toArray n, slots := sl } ∧
      R (.ok (.ret (.ref s.heap.objs.size))) { s with heap := s.heap.push { cls := .type "list", data := .seq (List.foldl (fun x1 x2 => x1 ++ x2) #[] (List.replicate (if its.toArray.isEmpty = true then 0 else k.toNat) its.toArray)) } }) :=
  .of_wp fun prog w A R s h => by
    obtain ⟨hp, g, d, tk, os⟩ := s; obtain ⟨hl, h⟩ := h; have hsz := AutoListH.joined_fits f3
    wp_walk using wpAny_loadPart' hl; refine wpAny_ite_false (decide_eq_false f2) ?_; wp_walk using wpAny_loadPart' hl; refine wpAny_ite_false (decide_eq_false f3) ?_
    wp_walk using wpAny_loadPart' hl; refine wpAny_ite_false (decide_eq_false (Nat.not_lt.mpr hsz)) ?_; wp_walk using wpAny_loadPart' hl
    exact ⟨_, rfl, h⟩
theorem int_rmulW {l : Addr} {its : List Value} {n : Nat} {dd : Option Addr} {sl : Array (Option Value)} {k : Int} {t : Tok} :
    Meets (Builtin.«int.__rmul__» ⟨[.int k t, .ref l], []⟩) (fun _ R s => s.heap.get? l = some { cls := .type "list", dict := dd, data := .seq its.toArray n, slots := sl } ∧ R (.ok (.ret Value.notImplemented)) s) :=
  .of_wp fun prog w A R s h => by obtain ⟨hp, g, d, tk, os⟩ := s; obtain ⟨hl, h⟩ := h; wp_walk using wpAny_loadPart' hl, wpAny_load hl; exact ⟨_, rfl, h⟩
section
variable {X : Cx}
def rRepL (K : PySem.W.Frag) : R2 := fun x y H Q => ∃ l k xs, x = .ref l ∧ y = .int k ∧ SqL K H l xs ∧ -(2 ^ 63) ≤ k ∧ k < 2 ^ 63 ∧ xs.length * k.toNat ≤ sizeLine ∧ ∀ p, H p = none → Q (.ref p) (upd H p (.lst (List.replicate k.toNat xs).flatten))
theorem op_repL : OpR X (binaryOp .Mult) (rRepL X.K) := by
  intro pins s σ H x y v u Q I rx ry h
  obtain ⟨l, k, xs, rfl, rfl, hs, h1, h2, hz, q⟩ := h
  cases rx
  obtain ⟨t, rfl⟩ := ry
  obtain ⟨its, r, ⟨⟨c, d, a, sl⟩, n, e, ec, ed, ea⟩, z⟩ := I.list hs
  simp only at ec ed ea
  subst ec ed ea
  have hl := r.length
  have f0 : its.toArray.size * k.toNat ≤ sizeLine := by rw [List.size_toArray, ← hl]; exact hz
  have f2 : ¬ its.toArray.size * k.toNat > (2 ^ 63 - 1) / 8 := by have : (sizeLine : Nat) ≤ (2 ^ 63 - 1) / 8 := by decide
                                                                  omega
  have f1 : ¬ (!Builtin.List.listFitsIndex k) = true := by rw [fitsIndex_both h1 h2]; exact Bool.false_ne_true
  have f3 : ¬ Builtin.List.listTooLong (its.toArray.size * k.toNat) = true := by rw [notLongL f0]; exact Bool.false_ne_true
  have new : List.foldl (fun x1 x2 => x1 ++ x2) #[] (List.replicate (if its.toArray.isEmpty = true then 0 else k.toNat) its.toArray) = (List.replicate k.toNat its).flatten.toArray := by
    have g : ∀ m : Nat, List.foldl (fun x1 x2 => x1 ++ x2) #[] (List.replicate m its.toArray) = (List.replicate m its).flatten.toArray := fun m => by simpa using foldl_rep its m []
    rw [g]
    cases its with
    | nil => simp
    | cons b r' => rw [if_neg (by simp)]
  refine wpAny_binaryOp_repeat_ref (T := "list") (U := "int") (by decide) ⟨_, e, rfl⟩ (fun s' => typeIs_int s' k t) noFill_list_mul F.fills_int_mul F.slot_int_rmul repeat_list F.slot_int_index.lookup
    (call_meets F.slot_int_rmul (typeIs_int s k t) F.entry_int_rmul (F.args_int_rmul_2 _ _) int_rmulW ⟨e, rfl, ⟨_, e, rfl⟩, call_meets F.slot_list_mul ⟨_, e, rfl⟩ F.entry_list_mul (F.args_list_mul_2 _ _) (list_mulW f1 f2 f3) ⟨e, ?_⟩⟩)
  rw [new]
  exact ⟨.ref _, _, I.lnew (t' := s.toks) (r.rep k.toNat) (by rw [PyProof.Rows.lm_len_rep_flat, Nat.mul_comm]; exact hz), rfl, q _ I.fresh⟩
/-- as mulD; a list, too -/
def mulHD : Op2 := fun x y M => match x, y with
  | .lst ds, .int k => if -1000 ≤ k ∧ k ≤ 1000 ∧ ds.length ≤ 1000 then .ok (.lst (List.replicate k.toNat ds).flatten) M else .err
  | x, y => mulD x y M
theorem o_mulH : Op2R X (binaryOp .Mult) mulHD := by
  intro ρ M H x y v w Q Rl dx dy h
  unfold mulHD at h
  split at h
  · rename_i ds k
    obtain ⟨a, xs, rfl, hs, hd⟩ := den_lst.mp dx
    rw [den_int] at dy
    subst dy
    split at h
    · rename_i z
      obtain ⟨z1, z2, z3⟩ := z
      have hz : xs.length * k.toNat ≤ sizeLine := by
        rw [← hd.length]
        exact Nat.le_trans (Nat.mul_le_mul z3 (show k.toNat ≤ 1000 by omega)) (by decide)
      exact ⟨_, op_repL, a, k, xs, rfl, rfl, hs.sq, by omega, by omega, hz, newL Rl h (hd.rep _)⟩
    · exact h.elim
  · exact o_mul ρ M H x y v w Q Rl dx dy h
theorem q_mulH : Quiet2 mulHD := by
  intro x y M c fs M' e
  unfold mulHD at e
  split at e
  · (repeat' split at e) <;> cases e
  · exact q_mul _ _ _ _ _ _ e
end
end Mi

end

section
/-! Mi, part 49: what is told away as a plain value, as deep as it goes: its dicts are locked for good. -/
namespace Mi
open PySem PySem.Spec PyProof.Rows L2
/-- dicts locked, one behind the other, and then it is so -/
inductive Lks (Q : Hp → Prop) : Hp → Prop
  | done {H : Hp} : Q H → Lks Q H
  | lock {H : Hp} {d : Addr} {kvs : List (Key × V)} : H d = some (.dK kvs) → (∀ o, Lks Q (upd H d (.frz o (.dK kvs)))) → Lks Q H
theorem Lks.bind {P Q : Hp → Prop} {H : Hp} (h : Lks P H) (k : ∀ H', P H' → Lks Q H') : Lks Q H := by
  induction h with
  | done p => exact k _ p
  | lock e _ ih => exact .lock e ih
theorem Lks.run {X : Cx} {pins : List (Addr × Obj)} {σ : L2.St} {H : Hp} {s : Shared} {Q : Hp → Prop} (h : Lks Q H) : L2.Inv X pins σ H s → ∃ H', L2.Inv X pins σ H' s ∧ Q H' := by
  induction h with
  | done p => exact fun I => ⟨_, I, p⟩
  | lock e _ ih =>
    intro I
    obtain ⟨o, I1⟩ := I.lock e True.intro
    exact ih o I1
theorem pe_lks {X : Cx} {e : Expr} {t : TE} (h : PE X e t) : PE X e (fun σ H Q => t σ H (fun v H1 => Lks (Q v) H1)) := by
  refine ⟨fun pins s σ H Q I hw => thn (h.run pins s σ H _ I hw) fun v s1 ⟨x, H1, I1, r, q⟩ => ?_⟩
  obtain ⟨H2, I2, q2⟩ := q.run I1
  exact ⟨x, H2, I2, r, q2⟩

def frzL (f : D → MH → Option (D × MH)) : List D → MH → Option (List D × MH)
  | [], M => some ([], M)
  | d :: r, M => match f d M with
    | some (d', M1) => match frzL f r M1 with
      | some (r', M2) => some (d' :: r', M2)
      | none => none
    | none => none
def frzD : Nat → D → MH → Option (D × MH)
  | 0, _, _ => none
  | n + 1, d, M => match d with
    | .ref l => match M[l]? with
      | some (.lst ds) => match frzL (frzD n) ds M with
        | some (ds', M1) => match M1[l]? with
          | some (.lst _) => some (.lst ds', M1.set l .gone)
          | _ => none
        | none => none
      | some (.dct kvs) => match frzL (frzD n) (kvs.map (·.2)) M with
        | some (ds', M1) => match M1[l]? with
          | some (.dct _) => some (.dct (kvs.map (·.1)) ds', M1.set l .gone)
          | _ => none
        | none => none
      | _ => some (d, M)
    | .tup ds => match frzL (frzD n) ds M with
      | some (ds', M1) => some (.tup ds', M1)
      | none => none
    | .lst ds => match frzL (frzD n) ds M with
      | some (ds', M1) => some (.lst ds', M1)
      | none => none
    | d => some (d, M)
/-- nothing but dicts that are locked meanwhile -/
def FS (H H1 : Hp) : Prop := ∀ a u, H a = some u → H1 a = some u ∨ ∃ kvs o, u = .dK kvs ∧ H1 a = some (.frz o (.dK kvs))
theorem FS.refl {H : Hp} : FS H H := fun _ _ h => .inl h
theorem FS.trans {H H1 H2 : Hp} (a : FS H H1) (b : FS H1 H2) : FS H H2 := fun x u h => by
  rcases a x u h with q | ⟨kvs, o, rfl, q⟩
  · exact b x u q
  · rcases b x _ q with z | ⟨_, _, z, _⟩
    · exact .inr ⟨kvs, o, rfl, z⟩
    · cases z
section
variable {K : PySem.W.Frag}
def FzOk (K : PySem.W.Frag) (ρ : Rho) (H : Hp) (M' : MH) (d' : D) (v : V) (H' : Hp) : Prop := ∃ ρ', Stp ρ H ρ' H' ∧ FS H H' ∧ Rel K ρ' M' H' ∧ Den K ρ' H' d' v
def FzsOk (K : PySem.W.Frag) (ρ : Rho) (H : Hp) (M' : MH) (ds' : List D) (vs : List V) (H' : Hp) : Prop := ∃ ρ', Stp ρ H ρ' H' ∧ FS H H' ∧ Rel K ρ' M' H' ∧ Dens K ρ' H' ds' vs
theorem frzL_ok {f : D → MH → Option (D × MH)} (hf : ∀ d M d' M', f d M = some (d', M') → ∀ ρ H v, Rel K ρ M H → Den K ρ H d v → Lks (FzOk K ρ H M' d' v) H) :
    ∀ ds M ds' M', frzL f ds M = some (ds', M') → ∀ ρ H vs, Rel K ρ M H → Dens K ρ H ds vs → Lks (FzsOk K ρ H M' ds' vs) H
  | [], M, ds', M', e, ρ, H, vs, R, dv => by
    unfold frzL at e
    cases e
    exact .done ⟨ρ, Stp.refl (K := K) (M := M), FS.refl, R, dv⟩
  | d :: r, M, ds', M', e, ρ, H, vs, R, dv => by
    unfold frzL at e
    split at e
    · rename_i d1 M1 e1
      split at e
      · rename_i r1 M2 e2
        cases e
        obtain ⟨v, t, rfl, h1, h2⟩ := dens_cons.mp dv
        refine (hf d M d1 _ e1 ρ H v R h1).bind fun H1 ⟨ρ1, S1, F1, R1, q1⟩ => ?_
        refine (frzL_ok hf r _ r1 _ e2 ρ1 H1 t R1 (Dens.step R S1 _ _ h2)).bind fun H2 ⟨ρ2, S2, F2, R2, q2⟩ => ?_
        exact .done ⟨ρ2, S1.trans S2, F1.trans F2, R2, dens_cons.mpr ⟨v, t, rfl, Den.step R1 S2 _ _ q1, q2⟩⟩
      · cases e
    · cases e
theorem frzD_ok : ∀ n d M d' M', frzD n d M = some (d', M') → ∀ ρ H v, Rel K ρ M H → Den K ρ H d v → Lks (FzOk K ρ H M' d' v) H := by
  intro n
  induction n with
  | zero => intro d M d' M' e; cases e
  | succ n ih =>
    intro d M d' M' e ρ H v R dv
    have same : Lks (FzOk K ρ H M d v) H := .done ⟨ρ, Stp.refl (K := K) (M := M), FS.refl, R, dv⟩
    have L := frzL_ok (K := K) ih
    cases d with
    | ref l =>
      unfold frzD at e
      simp only at e
      obtain ⟨a, o, rfl, hl, ho⟩ := den_ref.mp dv
      split at e
      · rename_i ds hm
        split at e
        · rename_i ds1 M1 e1
          split at e
          · rename_i ds2 hm1
            cases e
            obtain ⟨b, xs, h1, h2, h3⟩ := R.obj l _ hm
            rw [hl] at h1; cases h1
            have ea := ho b rfl; subst ea
            refine (L ds M ds1 M1 e1 ρ H xs R h3).bind fun H1 ⟨ρ1, S1, F1, R1, q1⟩ => ?_
            obtain ⟨b1, ys, g1, g2, g3⟩ := R1.obj l _ hm1
            have eb : b1 = b := by
              rcases S1.pre l _ hl with z | z <;> (rw [g1] at z; cases z)
              rfl
            subst eb
            have hb : H1 b1 = some (.lst xs) := by
              rcases F1 b1 _ h2 with z | ⟨_, _, z, _⟩
              · exact z
              · cases z
            have nh : b1 ∉ ρ1.h := fun m => (R1.hid b1 m).1 (mem_of_get g1)
            refine .done ⟨ρ1.off l, S1.trans (Stp.off l), F1, R1.off (List.getElem?_eq_some_iff.mp hm1).1, den_lst.mpr ⟨b1, xs, rfl, .inl ⟨.inl hb, off_not R1 g1, nh⟩, Dens.step R1 (Stp.off l) _ _ q1⟩⟩
          · cases e
        · cases e
      · rename_i kvs hm
        split at e
        · rename_i ds1 M1 e1
          split at e
          · rename_i kvs2 hm1
            cases e
            obtain ⟨b, ks, h1, h2, h3⟩ := R.obj l _ hm
            rw [hl] at h1; cases h1
            have ea := ho b rfl; subst ea
            obtain ⟨k1, k2⟩ := denP_split h3
            refine (L _ M ds1 M1 e1 ρ H _ R k2).bind fun H1 ⟨ρ1, S1, F1, R1, q1⟩ => ?_
            obtain ⟨b1, ys, g1, g2, g3⟩ := R1.obj l _ hm1
            have eb : b1 = b := by
              rcases S1.pre l _ hl with z | z <;> (rw [g1] at z; cases z)
              rfl
            subst eb
            have hb : H1 b1 = some (.dK ks) := by
              rcases F1 b1 _ h2 with z | ⟨_, _, _, z⟩
              · exact z
              · rw [g2] at z; cases z
            refine .lock hb fun o => .done ?_
            have n1 := off_not R1 g1
            have T : Tr (ρ1.off l) H1 (ρ1.off l) (upd H1 b1 (.frz o (.dK ks))) := Tr.lock hb
            have R2 : Rel K (ρ1.off l) (M1.set l .gone) H1 := R1.off (List.getElem?_eq_some_iff.mp hm1).1
            refine ⟨ρ1.off l, ⟨fun j u q => ?_, fun x q => ?_, fun x u q nx => ?_, S1.hid⟩, ?_, R2.at_d hb (fun _ z => nomatch z) n1 T, den_dct.mpr ⟨b1, ks, rfl, ⟨o, upd_same⟩, n1, k1, ?_⟩⟩
            · exact (S1.trans (Stp.off (H := H1) l)).pre j u q
            · exact (S1.trans (Stp.off (H := H1) l)).new x q
            · have ne : x ≠ b1 := fun e => nx (by rw [e]; exact mem_of_get hl)
              rw [upd_ne ne]
              exact S1.keep x u q nx
            · refine F1.trans fun x u q => ?_
              by_cases e : x = b1
              · subst e
                rw [hb] at q; cases q
                exact .inr ⟨ks, o, rfl, upd_same⟩
              · exact .inl (by rw [upd_ne e]; exact q)
            · exact Dens.tr T _ _ (Dens.step R1 (Stp.off l) _ _ q1)
          · cases e
        · cases e
      · cases e
        exact same
    | tup ds =>
      unfold frzD at e
      simp only at e
      split at e
      · rename_i ds1 M1 e1
        cases e
        obtain ⟨a, xs, rfl, h1, h2⟩ := den_tup.mp dv
        refine (L ds M ds1 _ e1 ρ H xs R h2).bind fun H1 ⟨ρ1, S1, F1, R1, q1⟩ => .done ⟨ρ1, S1, F1, R1, den_tup.mpr ⟨a, xs, rfl, SqT.step R S1 h1, q1⟩⟩
      · cases e
    | lst ds =>
      unfold frzD at e
      simp only at e
      split at e
      · rename_i ds1 M1 e1
        cases e
        obtain ⟨a, xs, rfl, h1, h2⟩ := den_lst.mp dv
        refine (L ds M ds1 _ e1 ρ H xs R h2).bind fun H1 ⟨ρ1, S1, F1, R1, q1⟩ => .done ⟨ρ1, S1, F1, R1, den_lst.mpr ⟨a, xs, rfl, h1.step S1, q1⟩⟩
      · cases e
    | non => cases e; exact same
    | bl _ => cases e; exact same
    | int _ => cases e; exact same
    | str _ => cases e; exact same
    | ty _ => cases e; exact same
    | adr _ => cases e; exact same
    | dct _ _ => cases e; exact same
    | fn _ => cases e; exact same
    | exo _ _ _ _ => cases e; exact same
end
def mFrz (m : ME) : ME := fun env M => (m env M).bind fun d M1 => match frzD 12 d M1 with
  | some (d', M2) => .ok d' M2
  | none => .err
section
variable {X : Cx} {W : WX}
theorem s_frz {e : Expr} {m : ME} (h : SE X W e m) : SE X W e (mFrz m) := by
  refine pe_imp (pe_lks h) fun σ H Q q => ?_
  refine tm_bind (f := fun d _ M1 => match frzD 12 d M1 with | some (d', M2) => .ok d' M2 | none => .err) q fun d M1 ρ1 H1 v env R1 E1 dv q1 => ?_
  split at q1
  · rename_i d' M2 e
    refine (frzD_ok 12 d M1 d' M2 e ρ1 H1 v R1 dv).bind fun H2 ⟨ρ2, S, F, R2, dv2⟩ => .done (q1 ρ2 H2 v S R2 dv2)
  · exact q1.elim
end
end Mi

end

section
/-! Mi, part 50: walks over a told dict's keys and its items. -/
namespace Mi
open PySem PySem.Spec PyProof.Rows L2
def itemsHD : D → MH → R (List D) := fun d M => match d with
  | .dct ks _ => .ok (ks.map keyD) M
  | d => itemsD d M
def mItemsH (m : ME) : MA := fun env M => (m env M).bind fun d M1 => itemsHD d M1
def pairsHD : D → MH → R (List D) := fun d M => match d with
  | .dct ks ds => .ok ((ks.zip ds).map fun p => .tup [keyD p.1, p.2]) M
  | _ => .err
def mPairsI (m : ME) : MA := fun env M => (m env M).bind fun d M1 => pairsHD d M1
theorem wk_items {K : PySem.W.Frag} {ρ : Rho} {M : MH} {H : Hp} {d : Addr} {o : Obj} {kvs : List (Key × V)} {ds : List D} (Rl : Rel K ρ M H) (hd : H d = some (.frz o (.dK kvs))) (dv : Dens K ρ H ds (kvs.map (·.2))) : Wk K ρ H (Iti d o kvs) (((kvs.map (·.1)).zip ds).map fun p => .tup [keyD p.1, p.2]) where
  goes := fun i ρ' M' H' hi R' S f => ⟨f d o _ hd, by
    have z := dv.length
    simp only [List.length_map, List.length_zip] at hi z
    omega⟩
  stops := fun ρ' M' H' R' S f => ⟨f d o _ hd, by
    have z := dv.length
    simp only [List.length_map, List.length_zip] at z ⊢
    omega⟩
  yields := fun i ρ' M' H' x H'' e he R' S f y => by
    obtain ⟨T, k, v, h1, rfl, hn, rfl⟩ := y
    rw [List.getElem?_map] at he
    obtain ⟨p, hp, rfl⟩ := Option.map_eq_some_iff.mp he
    obtain ⟨q1, q2⟩ := List.getElem?_zip_eq_some.mp hp
    rw [List.getElem?_map, h1] at q1
    injection q1 with q1
    obtain ⟨u, h3, h4⟩ := dv.get q2
    rw [List.getElem?_map, h1] at h3
    injection h3 with h3
    subst h3
    refine ⟨R'.alloc hn, Stp.alloc hn, den_newT R' hn (dens_cons.mpr ⟨_, _, rfl, ?_, dens_cons.mpr ⟨_, _, rfl, Den.tr S _ _ h4, dens_nil.mpr rfl⟩⟩)⟩
    rw [← q1]
    exact den_key k
section
variable {X : Cx} {W : WX}
theorem i_seqH {tg e : Expr} {m : ME} (h : SE X W e m) : SI X W tg e (mItemsH m) := by
  refine ⟨fun pins s σ H Rr I q => ?_⟩
  obtain ⟨ρ, M, env, Rl, E, q⟩ := q
  have q0 := q
  unfold mItemsH at q0
  cases r : m env M with
  | err => rw [r] at q0; exact q0.elim
  | exc c fs M1 =>
    refine (i_seq (tg := tg) h).run pins s σ H Rr I ⟨ρ, M, env, Rl, E, ?_⟩
    unfold mItems
    rw [r] at q0 ⊢
    exact q0
  | ok d M1 =>
    by_cases hd : ∃ ks ds, d = .dct ks ds
    · obtain ⟨ks, ds, rfl⟩ := hd
      refine (pi_keys h).run pins s σ H Rr I ⟨ρ, M, env, Rl, E, q0.bind fun d M2 ρ1 H1 v e S R1 dv q1 => ?_⟩
      rw [r] at e
      cases e
      obtain ⟨a, kvs, rfl, ⟨o, hl⟩, n, rfl, _⟩ := den_dct.mp dv
      exact ⟨a, o, rfl, .inl ⟨kvs, hl, q1 ρ1 H1 _ (Stp.refl (K := X.K) (M := M1)) R1 (wk_keys (M := M1) hl)⟩⟩
    · refine (i_seq (tg := tg) h).run pins s σ H Rr I ⟨ρ, M, env, Rl, E, ?_⟩
      unfold mItems
      rw [r] at q0 ⊢
      have e : itemsHD d M1 = itemsD d M1 := by
        cases d <;> first
          | rfl
          | exact (hd ⟨_, _, rfl⟩).elim
      simp only [R.bind_ok] at q0 ⊢
      rw [e] at q0
      exact q0
theorem i_items {elts : List Expr} {kk : Nat} {tpos : Pos} {e : Expr} {m : ME} {apos cpos : Pos} (h : SE X W e m) (hbase : attributeBase e "items" X.env (eval e X.env) = eval e X.env := by rfl) (hline : (apos.endLine == cpos.line) = true := by rfl) :
    SI X W (.Tuple elts kk tpos) (.Call (.Attribute e "items" apos) [] [] cpos) (mPairsI m) := by
  refine ⟨fun pins s σ H Rr I q => ?_⟩
  obtain ⟨ρ, M, env, Rl, E, q⟩ := q
  refine (pi_items h hbase hline).run pins s σ H Rr I ⟨ρ, M, env, Rl, E, q.bind fun d M1 ρ1 H1 v e S R1 dv q1 => ?_⟩
  unfold pairsHD at q1
  split at q1
  · obtain ⟨a, kvs, rfl, ⟨o, hl⟩, n, rfl, dd⟩ := den_dct.mp dv
    exact ⟨a, o, kvs, rfl, hl, q1 ρ1 H1 _ (Stp.refl (K := X.K) (M := M1)) R1 (wk_items R1 hl dd)⟩
  · exact q1.elim
end
end Mi

end

section
/-! Mi, part 51: enumerate over a list from any number. -/
namespace Mi
open PySem PySem.Spec PyProof.Rows L2
/-- the list at a, each item in a new pair with its number -/
def iteL (K : PySem.W.Frag) (a : Addr) (k0 : Int) : It :=
  ⟨fun i H => ∃ (xs : List V) (x : V), SqL K H a xs ∧ xs[i]? = some x, fun i H v H' => ∃ T x, v = .ref T ∧ H T = none ∧ H' = upd H T (.tup [.int (k0 + (i : Int)), x]) ∧ ∀ xs, SqL K H a xs → xs[i]? = some x, fun i H => ∃ xs : List V, SqL K H a xs ∧ xs.length = i⟩
theorem turn_iteL {P : Program} {w : World} {K : PySem.W.Frag} {elts : List Expr} {kk : Nat} {tpos : Pos} (a e it : Addr) (k0 : Int) (hae : a ≠ e) (hai : a ≠ it) :
    Turn P w K (.Tuple elts kk tpos) (iteL K a k0) [e, it] e (fun i h => (∃ old, IsEnum h e it (k0 + (i : Int)) old) ∧ h.IsListIter it a i ∧ e ≠ it) where
  mem := by simp
  obj := fun i h st b hb => by
    obtain ⟨⟨old, he⟩, ⟨o, ho, hc, hd⟩, _⟩ := st
    have e' : b = e ∨ b = it := by simpa using hb
    rcases e' with z | z
    · rw [z]; exact ⟨_, he, fun v q => nomatch q⟩
    · rw [z]; exact ⟨o, ho, fun v q => by rw [hd] at q; cases q⟩
  keep := fun i h h' st k => let ⟨⟨old, he⟩, hi, hne⟩ := st; ⟨⟨old, k e (by simp) _ he⟩, hi.at fun o q => k it (by simp) o q, hne⟩
  item := by
    intro X hP hw hK hc i pins s σ H E I hf st hg
    subst hP hw hK
    obtain ⟨⟨old, he⟩, hit, hne⟩ := st
    obtain ⟨xs, x, hq, hx⟩ := hg
    obtain ⟨its, rv, ht, hz⟩ := I.list hq
    obtain ⟨u, hu, ru⟩ := rv.get hx
    have hel : e < s.heap.objs.size := Heap.lt_size he
    have hil : it < s.heap.objs.size := by obtain ⟨_, q, _⟩ := hit; exact Heap.lt_size q
    have hlt : i < its.toArray.size := by
      have := (List.getElem?_eq_some_iff.mp hu).1
      simpa using this
    have hh : X.A.in1.handled = none := I.ok.hd hc
    have itp : s.heap.IsList a its.toArray := ht.isList
    refine wpAny_pyNext_enum_itemC (Draws.list (A := X.A.in1) hh it a hai its.toArray) he ⟨hit, itp⟩ hlt hne (by simp [hne, Ne.symm hae]) fun y h' tk hP ho hs' hT hsz hk => ?_
    have ey : y = u := by
      have : its.toArray[i]? = some y := hP
      rw [List.getElem?_toArray, hu] at this
      exact (Option.some.inj this).symm
    subst ey
    refine ⟨_, rfl, wpAny_letOwnedTupleGo_enum (s := { s with heap := h', toks := tk + 1 }) ho fun h'' he' sb => ?_⟩
    have hT2 : h''.get? s.heap.objs.size = some { cls := .type "tuple", data := .seq #[.int (k0 + (i : Int)) tk, y] } := (sb.2 _ (Nat.ne_of_gt hel)).trans hT
    have new : ObjOk X.prog X.w (upd H s.heap.objs.size (.tup [.int (k0 + (i : Int)), x])) h'' s.heap.objs.size (.tup [.int (k0 + (i : Int)), x]) :=
      ⟨by show 2 ≤ sizeLine; decide, [.int (k0 + (i : Int)) tk, y], .cons ⟨_, rfl⟩ (.cons ru .nil), ⟨_, hT2, rfl, _, rfl⟩⟩
    have I1 : L2.Inv X pins σ (upd H s.heap.objs.size (.tup [.int (k0 + (i : Int)), x])) { s with heap := h'', toks := tk + 1 } :=
      I.turnedNew (ch := [e, it]) (fun b ob hb q => (sb.2 b (fun z => hb (by simp [z]))).trans (hk b ob (fun z => hb (by simp [z])) (fun z => hb (by simp [z])) q)) hf (Nat.le_refl _) new
    refine ⟨.ref s.heap.objs.size, _, I1, rfl, ⟨_, x, rfl, I.hok.fresh (Nat.le_refl _), rfl, fun ys hy => by rw [I.list_inj hy hq]; exact hx⟩, ⟨⟨y, ?_⟩, hs'.1.at fun o q => (sb.2 it (Ne.symm hne)).trans q, hne⟩, fun b hb => ?_⟩
    · have e1 : k0 + ((i + 1 : Nat) : Int) = k0 + (i : Int) + 1 := by omega
      rw [e1]; exact he'
    · have hb' : b < s.heap.objs.size := by
        have e' : b = e ∨ b = it := by simpa using hb
        rcases e' with z | z
        · rw [z]; exact hel
        · rw [z]; exact hil
      rw [upd_ne (Nat.ne_of_lt hb')]
      exact (hf b hb).1
  done := by
    intro X hP hw hK hc i pins s σ H E I hf st hg
    subst hP hw hK
    obtain ⟨⟨old, he⟩, hit, hne⟩ := st
    obtain ⟨xs, hq, hx⟩ := hg
    obtain ⟨its, rv, ht, hz⟩ := I.list hq
    obtain ⟨f0, f1, f2, f3, f4, f5⟩ := hf it (by simp)
    have hl := rv.length
    have hn : its.toArray.size = i := by rw [List.size_toArray, ← hl]; exact hx
    have hh : X.A.in1.handled = none := I.ok.hd hc
    have itp : s.heap.IsList a its.toArray := ht.isList
    refine wpAny_pyNext_enum_endD (Draws.list (A := X.A.in1) hh it a hai its.toArray) he ⟨by rw [hn]; exact hit, itp⟩ fun h' eb => ⟨rfl, ?_⟩
    exact I.turned (t' := s.toks) (fun b o hb q => eb b o hb q) f0 f1 f3 f4 f5
  self := fun A i s Q E st h => let ⟨⟨_, he⟩, _⟩ := st; wpAny_pyIter_enum he h
theorem wk_enumLK {K : PySem.W.Frag} {ρ : Rho} {M : MH} {H : Hp} {a : Addr} {ds : List D} {xs : List V} {k0 : Int} (Rl : Rel K ρ M H) (hs : LsV K ρ H a xs) (hd : Dens K ρ H ds xs) : Wk K ρ H (iteL K a k0) (enumL k0 ds) where
  goes := fun i ρ' M' H' hi R' S _ => by
    rw [enumL_len, hd.length] at hi
    exact ⟨xs, xs[i], (hs.tr S).sq, by simp [hi]⟩
  stops := fun ρ' M' H' R' S _ => ⟨xs, (hs.tr S).sq, by rw [enumL_len, hd.length]⟩
  yields := fun i ρ' M' H' x H'' d hd' R' S _ y => by
    obtain ⟨e, h1, h2⟩ := enumL_get hd'
    subst h2
    obtain ⟨v, h3, h4⟩ := hd.get h1
    obtain ⟨T, z, rfl, hn, rfl, hz⟩ := y
    have e2 := hz xs ((hs.tr S).sq)
    rw [h3] at e2
    cases e2
    have h5 := Den.tr S _ _ h4
    exact ⟨R'.alloc hn, Stp.alloc hn, den_newT R' hn (dens_cons.mpr ⟨_, _, rfl, den_int.mpr rfl, dens_cons.mpr ⟨_, _, rfl, h5, dens_nil.mpr rfl⟩⟩)⟩
section
variable {X : Cx} {W : WX}
theorem call_enumL {pins : List (Addr × Obj)} {σ : L2.St} {H : Hp} {s : Shared} {tg : List Expr} {kk : Nat} {tpos : Pos} {a : Addr} {xs : List V} {k : Int} {Rr : It → Hp → Prop} (I : L2.Inv X pins σ H s) (hq : SqL X.K H a xs) (q : Rr (iteL X.K a k) H) (h' : Heap)
    (he : IsEnum h' (s.heap.objs.size + 1) s.heap.objs.size k .none) (hit : h'.get? s.heap.objs.size = some { cls := .type "list_iterator", data := .fields #[.ref a, .int 0 0] }) (hk : ∀ b o, s.heap.get? b = some o → h'.get? b = some o) :
    PIE X pins σ (.Tuple tg kk tpos) Rr (.ref (s.heap.objs.size + 1)) { s with heap := h' } := by
  have I2 : L2.Inv X pins σ H { s with heap := h' } := I.kept (t' := s.toks) hk
  obtain ⟨its, rv, ht, hz⟩ := I.list hq
  have hal : a < s.heap.objs.size := by obtain ⟨_, e, _⟩ := ht.isList; exact Heap.lt_size e
  refine ⟨s.heap.objs.size + 1, [s.heap.objs.size + 1, s.heap.objs.size], _, _, H, rfl, I2, turn_iteL a (s.heap.objs.size + 1) s.heap.objs.size k (Nat.ne_of_lt (Nat.lt_succ_of_lt hal)) (Nat.ne_of_lt hal), ⟨⟨.none, ?_⟩, ⟨_, hit, rfl, rfl⟩, Nat.succ_ne_self _⟩, fun b hb => ?_, q⟩
  · show IsEnum h' _ _ (k + ((0 : Nat) : Int)) _
    have : k + ((0 : Nat) : Int) = k := by omega
    rw [this]
    exact he
  · have e' : b = s.heap.objs.size + 1 ∨ b = s.heap.objs.size := by simpa using hb
    have hle : s.heap.objs.size ≤ b := by
      rcases e' with z | z
      · rw [z]; exact Nat.le_add_right _ _
      · rw [z]; exact Nat.le_refl _
    exact I.fpOk hle (I.hok.fresh hle)
theorem Ok.stp {α β : Type} {K : PySem.W.Frag} {ρ ρ1 : Rho} {H H1 : Hp} {dn : Rho → Hp → α → β → Prop} {Wf : Value → Option Addr → Hp → Prop} {Q : β → Hp → Prop} {r : R α} (S : Stp ρ H ρ1 H1) (h : Ok K ρ H dn Wf Q r) : Ok K ρ1 H1 dn Wf Q r := by
  cases r with
  | ok a M => exact fun ρ' H' v S' R' d => h ρ' H' v (S.trans S') R' d
  | exc c fs M => exact fun ρ' H' d cv cn S' R' x => h ρ' H' d cv cn (S.trans S') R' x
  | err => exact h
/-- the thing walked, and the number -/
def enumKD : List D → MH → R (List D) := fun xs M => match xs with
  | [.lst ds, .int k] => if -(2 ^ 63) ≤ k ∧ k < 2 ^ 63 then .ok (enumL k ds) M else .err
  | _ => .err
/-- over enumerate(xs, start=k) -/
def mEnumLK (me mk : ME) : MA := fun env M => (me env M).bind fun d M1 => (mk env M1).bind fun k M2 => enumKD [d, k] M2
theorem i_enumLK {e ke : Expr} {me mk : ME} {p pos tpos kp2 : Pos} {elts : List Expr} {kk : Nat} (hm : X.mg "enumerate" = none) (he : SE X W e me) (hke : SE X W ke mk) (hg : Gl X "enumerate" := by rfl)
    (hs : starEach [e] X.env = (false, eval e X.env) :: starEach [] X.env := by rfl) (hall : (backToKw pos (keywordEach [⟨some (Str.ofString "start"), ke, kp2⟩] X.env)).all (·.1.isSome) = true := by rfl)
    (hks : (backToKw pos (keywordEach [⟨some (Str.ofString "start"), ke, kp2⟩] X.env)).filterMap (·.1) = [Str.ofString "start"] := by rfl)
    (hpl : ((backTo pos (starEach [e] X.env)).any (·.1) || (backToKw pos (keywordEach [⟨some (Str.ofString "start"), ke, kp2⟩] X.env)).any (·.1.isNone)) = false := by rfl) :
    SI X W (.Tuple elts kk tpos) (.Call (.Name "enumerate" p) [e] [⟨some (Str.ofString "start"), ke, kp2⟩] pos) (mEnumLK me mk) := by
  refine ⟨fun pins s σ H Rr I h => ?_⟩
  refine wpAny_Call_Name_kw (ld_blt I hg hm boot_enumerate ?_)
  refine PySem.W.callWith_of (P := fun _ => True) hpl (fun h _ => ⟨.machine, .inr (.inl rfl), .now⟩) (evalArgs_kw2 hall (thn ((a_cons (hs := hs) he a_nil).run pos pins s σ H (fun vs H1 => ∃ v d ρ1 M1 env, vs = [v] ∧ Rel X.K ρ1 M1 H1 ∧ EnR X.K ρ1 H1 env σ ∧ Den X.K ρ1 H1 d v ∧
    Ok X.K ρ1 H1 (DnI X.K) (fun c d H' => W c d σ H') Rr ((mk env M1).bind fun k M2 => enumKD [d, k] M2)) I ?_) fun us s1 ⟨vs, H1, I1, r1, v, d, ρ1, M1, env, ex, R1, E1, dv, q⟩ => ?_) hs)
  · obtain ⟨ρ, M, env, Rl, E, h⟩ := h
    refine ⟨ρ, M, env, Rl, E, ?_⟩
    unfold mEnumLK at h
    unfold aCons aNil
    cases r : me env M with
    | err => rw [r] at h; exact h
    | exc c fs M1 => rw [r] at h; exact h
    | ok d M1 =>
      rw [r] at h
      simp only [R.bind_ok] at h ⊢
      intro ρ1 H1 vs S R1 dd
      obtain ⟨v, t, rfl, h1, h2⟩ := dens_cons.mp dd
      rw [dens_nil.mp h2]
      exact ⟨v, d, ρ1, M1, env, rfl, R1, E.step Rl S, h1, Ok.stp S h⟩
  subst ex
  refine thn ((k_cons hke k_nil).run pos pins s1 σ H1 (fun ws H2 => ∃ a xs k, ws = [.int k] ∧ v = .ref a ∧ -(2 ^ 63) ≤ k ∧ k < 2 ^ 63 ∧ SqL X.K H2 a xs ∧ Rr (iteL X.K a k) H2) I1 ?_) fun ws s2 ⟨zs, H2, I2, rz, a, xs, k, ez, ev, hk0, hk1, hq, q2⟩ => ⟨True.intro, ?_⟩
  · refine ⟨ρ1, M1, env, R1, E1, ?_⟩
    unfold aCons aNil
    cases r : mk env M1 with
    | err => rw [r] at q; exact q
    | exc c fs M2 => rw [r] at q; exact q
    | ok kd M2 =>
      rw [r] at q
      simp only [R.bind_ok] at q ⊢
      intro ρ2 H2 vs S R2 dd
      obtain ⟨u, t, rfl, h1, h2⟩ := dens_cons.mp dd
      rw [dens_nil.mp h2]
      unfold enumKD at q
      split at q
      · rename_i ds k he2
        simp only [List.cons.injEq, and_true] at he2
        obtain ⟨e1, e2⟩ := he2
        subst e1 e2
        split at q
        · rename_i hk
          have dv2 := Den.step R1 S _ _ dv
          obtain ⟨a, xs, rfl, hs2, hd2⟩ := den_lst.mp dv2
          rw [den_int.mp h1]
          exact ⟨a, xs, k, rfl, rfl, hk.1, hk.2, hs2.sq, q ρ2 H2 _ S R2 (wk_enumLK R2 hs2 hd2)⟩
        · exact q.elim
      · exact q.elim
  subst ez ev
  rw [hks, Vals.ref1 r1]
  cases rz with
  | cons r rr =>
    cases rr
    obtain ⟨t, rfl⟩ := r
    obtain ⟨its, rv, pl, hz⟩ := I2.list hq
    exact enum_begins_start (begins_list a its.toArray) pl.isList hk0 hk1 fun h' he hit hsz hk => wpAny_pyIter_enum he (call_enumL I2 hq q2 h' he hit hk)
end
end Mi

end

section
/-! Mi, part 52: sorted of whole numbers; xs.clear(); d.clear(); d.setdefault(k, x). -/
namespace Mi
open PySem PySem.Spec PyProof.Rows L2
def insI (x : Int) : List Int → List Int
  | [] => [x]
  | y :: r => if x ≤ y then x :: y :: r else y :: insI x r
def sortI : List Int → List Int
  | [] => []
  | x :: r => insI x (sortI r)
theorem insI_perm (x : Int) : ∀ l : List Int, (insI x l).Perm (x :: l)
  | [] => .refl _
  | y :: r => by
    unfold insI
    split
    · exact .refl _
    · exact ((insI_perm x r).cons y).trans (.swap x y r)
theorem sortI_perm : ∀ l : List Int, (sortI l).Perm l
  | [] => .refl _
  | x :: r => (insI_perm x (sortI r)).trans ((sortI_perm r).cons x)
theorem insI_pair (x : Int) : ∀ l : List Int, l.Pairwise (· ≤ ·) → (insI x l).Pairwise (· ≤ ·)
  | [], _ => by unfold insI; simp
  | y :: r, h => by
    unfold insI
    obtain ⟨h1, h2⟩ := List.pairwise_cons.mp h
    split
    · rename_i e
      refine List.pairwise_cons.mpr ⟨fun z hz => ?_, h⟩
      rcases List.mem_cons.mp hz with rfl | hz
      · exact e
      · exact Int.le_trans e (h1 z hz)
    · rename_i e
      refine List.pairwise_cons.mpr ⟨fun z hz => ?_, insI_pair x r h2⟩
      rcases List.mem_cons.mp ((insI_perm x r).mem_iff.mp hz) with rfl | hz
      · omega
      · exact h1 z hz
theorem sortI_pair : ∀ l : List Int, (sortI l).Pairwise (· ≤ ·)
  | [] => .nil
  | x :: r => insI_pair x _ (sortI_pair r)
theorem sortI_one {ys ks : List Int} (h : ys.Perm ks) (s : ys.Pairwise (· ≤ ·)) : ys = sortI ks :=
  List.Perm.eq_of_pairwise (le := (· ≤ ·)) (fun _ _ _ _ => Int.le_antisymm) s (sortI_pair ks) (h.trans (sortI_perm ks).symm)
def intKeys : List Key → Option (List Int)
  | [] => some []
  | .inl x :: ks => (intKeys ks).map fun xs => x :: xs
  | .inr _ :: _ => none
theorem intKeys_eq : ∀ {ks : List Key} {xs : List Int}, intKeys ks = some xs → ks = xs.map Sum.inl
  | [], xs, e => by cases e; rfl
  | .inr _ :: ks, xs, e => by cases e
  | .inl x :: ks, xs, e => by
    obtain ⟨ms, e1, e2⟩ := Option.map_eq_some_iff.mp (show (intKeys ks).map (x :: ·) = some xs from e)
    subst e2
    rw [intKeys_eq e1]
    rfl
theorem intKeys_map (xs : List Int) : intKeys (xs.map Sum.inl) = some xs := by
  induction xs with
  | nil => rfl
  | cons x r ih =>
    show (intKeys (r.map Sum.inl)).map (x :: ·) = _
    rw [ih]
    rfl
section
variable {X : Cx}
/-- its keys in their order, a new list -/
def rSrtK (K : PySem.W.Frag) : List V → Hp → VK → Prop := fun vs H Q => ∃ (d : Addr) (held : List (Key × V)) (nums : List Int), vs = [.ref d] ∧ Rd H d (.dK held) ∧ held.map (·.1) = nums.map Sum.inl ∧ nums.length ≤ 1000000 ∧
  ∀ (out : List Int) (p : Addr), out.Perm nums → out.Pairwise (· ≤ ·) → H p = none → Q (.ref p) (upd H p (.lst (out.map V.int)))
theorem cr_srtK (calm : X.calm = true) : CallR X (.builtin "sorted") (rSrtK X.K) := by
  rintro pins σ s H vs us Q I r ⟨d, held, nums, rfl, hd, keys, few, q⟩
  obtain rfl := Vals.ref1 r
  obtain ⟨z, lo, raw, rel, dd⟩ := dk_rd I.hok hd
  obtain ⟨ep, seen⟩ := dd.dictAt
  have rawKeys : raw.map (·.1) = nums.map Sum.inl := by rw [← rel.keys, keys]
  have many : raw.length = nums.length := by simpa using congrArg List.length rawKeys
  have fits : raw.length ≤ sizeLine := by rw [many, sizeLine_eq]; omega
  refine Calls.call_function_entry kind_sorted plain_sorted entry_sorted (args_sorted1 _) ?_
  unfold Builtin.«sorted»
  refine wpAny_bind (m := checkCount "sorted" 1 1 _) (wpAny_pure ?_)
  refine wpAny_bind (PySem.W.kdu_collect (A := X.A.in1) (PySem.W.kdl_dict (knd := mixKind X.prog X.w) (kvs := raw) (ep := ep) lo) (I.ok.hd calm) seen fits fun h2 tk got kept gotAt => ?_)
  have gotLen : got.toList.length = nums.length := by rw [Array.length_toList, gotAt.1, many]
  have whole : IntsAre got.toList nums := ints_each gotLen fun j v at1 => by
    obtain ⟨k, x, c1, c2⟩ := gotAt.2 j v (by rw [← Array.getElem?_toList]; exact at1)
    have c3 : (nums.map (Sum.inl : Int → Key))[j]? = some k := by rw [← rawKeys, List.getElem?_map, c1]; rfl
    rw [List.getElem?_map] at c3
    obtain ⟨y, c4, rfl⟩ := Option.map_eq_some_iff.mp c3
    rcases keyIs_shape (show keyIs (Sum.inl y) v = true from c2) with ⟨i, t, ek, ev⟩ | ⟨w, t, ek, ev⟩
    · cases ek
      exact ⟨y, t, c4, ev⟩
    · cases ek
  have I2 : Inv X pins s H { σ with heap := h2, toks := tk } := I.kept kept
  have gotFits : got.toList.length ≤ sizeLine := by rw [gotLen, sizeLine_eq]; omega
  refine wpAny_bind (wpAny_newList ?_ gotFits)
  have put : (h2.push (seqObj "list" got.toList.toArray 0)).get? h2.objs.size = some (seqObj "list" got.toList.toArray 0) := Heap.get?_push_size _ rfl
  show wpAny _ _ _ _ _ { σ with heap := h2.push (seqObj "list" got.toList.toArray 0), toks := tk }
  refine wpAny_bind (wpAny_holding (wpAny_call_entry slot_list_sort ⟨_, put, rfl⟩ entry_list_sort
    (SrtO.list_sort_ord (s := { σ with heap := h2.push (seqObj "list" got.toList.toArray 0), toks := tk }) SrtO.swo_int put gotFits (fun two => SrtO.ints_sortable whole two) fun out o1 o2 => ⟨_, rfl, ?_⟩) (args_list_sort _)))
  obtain ⟨k1, k2, k3⟩ := SrtO.ints_out whole o1 o2
  obtain ⟨ep2, stands⟩ := sortedHeap_at (vs := got.toList) (out := out.toArray) put
  have outFits : ((out.map SrtO.iv).map V.int).length ≤ sizeLine := by
    rw [List.length_map, k2.length_eq, sizeLine_eq]
    omega
  refine wpAny_pure ⟨_, rfl, .ref h2.objs.size, upd H h2.objs.size (.lst ((out.map SrtO.iv).map V.int)), I2.laid (t' := tk) (fun b u e => ?_) (Nat.le_refl _)
    (show ObjOk X.prog X.w _ _ _ (.lst ((out.map SrtO.iv).map V.int)) from ⟨outFits, out, ep2, vals_of_ints k1, stands⟩), rfl, q _ _ k2 k3 (I2.hok.fresh (Nat.le_refl _))⟩
  have low : b < h2.objs.size := Heap.lt_size e
  rw [sortedHeap_old (Nat.ne_of_lt low) (by rw [size_push']; exact Nat.lt_succ_of_lt low)]
  exact Heap.get?_push_of_some _ e
end
def sortedHD : OpN := fun xs M => match xs with
  | [.lst ds] => match intsD ds with
    | some ns => .ok (.lst ((sortI ns).map .int)) M
    | none => sortedSD [.lst ds] M
  | [.dct keys vs] => match intKeys keys with
    | some ks => if ks.length ≤ 1000000 then .ok (.lst ((sortI ks).map .int)) M else .err
    | none => sortedSD [.dct keys vs] M
  | [.ref l] => match M[l]? with
    | some (.dct kvs) => match intKeys (kvs.map (·.1)) with
      | some ks => if ks.length ≤ 1000000 then .ok (.lst ((sortI ks).map .int)) M else .err
      | none => sortedSD [.ref l] M
    | _ => .err
  | _ => .err
theorem q_sortedH : QuietN sortedHD := by
  intro x M c fs M' e
  unfold sortedHD at e
  (repeat' split at e) <;> first
    | (cases e; done)
    | exact q_sortedS _ _ _ _ _ e
theorem dens_intS {K : PySem.W.Frag} {ρ : Rho} {H : Hp} : ∀ (xs : List Int), Dens K ρ H (xs.map D.int) (xs.map V.int)
  | [] => dens_nil.mpr rfl
  | x :: xs => dens_cons.mpr ⟨_, _, rfl, den_int.mpr rfl, dens_intS xs⟩
section
variable {X : Cx}
theorem o_sortedH (hc : X.calm = true) : OpNR X (.builtin "sorted") sortedHD := by
  intro ρ M H xs vs Q Rl dv h
  unfold sortedHD at h
  split at h
  · split at h
    · rename_i ns e
      obtain ⟨v, rfl, d⟩ := dens_one dv
      obtain ⟨a, ys, rfl, hs, hd⟩ := den_lst.mp d
      rw [intsD_eq e] at hd
      rw [dens_ints_inv hd] at hs
      refine ⟨_, cr_sortedI, a, ns, rfl, hs.sq, fun ys p hp hs' hn => ?_⟩
      have e1 := sortI_one hp hs'
      subst e1
      exact newL Rl h (dens_intS _) p hn
    · exact o_sortedS hc ρ M H _ vs Q Rl dv h
  · split at h
    · rename_i ks e
      split at h
      · rename_i hz
        obtain ⟨v, rfl, d⟩ := dens_one dv
        obtain ⟨a, kvs, rfl, hH, _, ek, hd⟩ := den_dct.mp d; have hH := hH.rd
        rw [intKeys_eq e] at ek
        refine ⟨_, cr_srtK hc, a, kvs, ks, rfl, hH, ek, hz, fun ys p hp hs' hn => ?_⟩
        have e1 := sortI_one hp hs'
        subst e1
        exact newL Rl h (dens_intS _) p hn
      · exact h.elim
    · exact o_sortedS hc ρ M H _ vs Q Rl dv h
  · rename_i l
    split at h
    · rename_i kvs hm
      split at h
      · rename_i ks e
        split at h
        · rename_i hz
          obtain ⟨v, rfl, d⟩ := dens_one dv
          obtain ⟨p0, u, rfl, hl, ho⟩ := den_ref.mp d
          obtain ⟨b, kvs2, h1, h2, h3⟩ := Rl.obj l _ hm
          rw [hl] at h1
          cases h1
          have eb := ho b rfl
          subst eb
          refine ⟨_, cr_srtK hc, b, kvs2, ks, rfl, .inl h2, by rw [(denP_split h3).1, intKeys_eq e], hz, fun ys p hp hs' hn => ?_⟩
          have e1 := sortI_one hp hs'
          subst e1
          exact newL Rl h (dens_intS _) p hn
        · exact h.elim
      · exact o_sortedS hc ρ M H _ vs Q Rl dv h
    · exact h.elim
  · exact h.elim
end
end Mi

end

section
/-! Mi, part 53: d.setdefault(k, x); xs.clear(), d.clear(); max(xs, default=k). -/
namespace Mi
open PySem PySem.Spec PyProof.Rows L2
section
variable {X : Cx} {W : WX} {o e f : Expr} {apos cpos : Pos} {mo mk md : ME}
def setdD (x y z : D) (M : MH) : R D := match x with
  | .ref l => match M[l]? with
    | some (.dct kvs) => match keyOf y with
      | some k => if kvs.length < lim then (match lkK kvs k with
        | some d => .ok d M
        | none => .ok z (M.set l (.dct (putM kvs k z)))) else .err
      | none => .err
    | _ => .err
  | _ => .err
def mSetD (mo mk md : ME) : ME := fun env M => (mo env M).bind fun x M1 => if isDct x M1 = true then (mk env M1).bind fun y M2 => (md env M2).bind fun z M3 => setdD x y z M3 else .err
theorem s_setd (c : Cf X) (ho : SE X W o mo) (hk : SE X W e mk) (hd : SE X W f md) (m : M2 X o "setdefault" apos e f cpos := by exact ⟨rfl, rfl, rfl, rfl⟩) : SE X W (.Call (.Attribute o "setdefault" apos) [e, f] [] cpos) (mSetD mo mk md) := by
  refine pe_imp (pe_dsetd ho hk hd m) fun σ H Q q => ?_
  refine tm_bind (f := fun x env M1 => if isDct x M1 = true then (mk env M1).bind fun y M2 => (md env M2).bind fun z M3 => setdD x y z M3 else (.err : R D)) q fun x M1 ρ1 H1 v env R1 E1 dx h => ?_
  split at h
  rotate_left
  · exact h.elim
  rename_i hd'
  obtain ⟨a, rfl, isd⟩ := isD_of R1 dx hd'
  refine ⟨a, rfl, isd, ρ1, M1, env, R1, E1, h.bind fun y M2 ρ2 H2 w _ S2 R2 dy h2 => ⟨ρ2, M2, env, R2, E1.step R1 S2, h2.bind fun z M3 ρ3 H3 u _ S3 R3 dz h3 => ?_⟩⟩
  have dx3 := Den.step R2 S3 _ _ (Den.step R1 S2 _ _ dx)
  have dy3 := Den.step R2 S3 _ _ dy
  unfold setdD at h3
  split at h3
  · rename_i l
    obtain ⟨p, uo, ep, hl, ho'⟩ := den_ref.mp dx3
    cases ep
    split at h3
    · rename_i kvs hm
      obtain ⟨b, ks, h1, g2, g3⟩ := R3.obj l _ hm
      have hl2 := h1
      rw [hl] at h1
      cases h1
      have eb := ho' b rfl
      subst eb
      split at h3
      · rename_i k hk
        have ew := keyOf_v hk dy3
        subst ew
        split at h3
        · rename_i hz
          refine ⟨ks, k, g2, rfl, lim_lt (by rw [← Paired.length g3]; exact hz), fun v' hv => ?_, fun hv => ?_⟩
          · cases el : lkK kvs k with
            | none => rw [denP_none g3 el] at hv; cases hv
            | some d' =>
              rw [el] at h3
              obtain ⟨v2, e2, dv2⟩ := denP_get g3 el
              rw [hv] at e2
              cases e2
              exact h3 ρ3 H3 v' (Stp.refl (K := X.K) (M := M3)) R3 dv2
          · cases el : lkK kvs k with
            | some d' =>
              obtain ⟨v2, e2, dv2⟩ := denP_get g3 el
              rw [hv] at e2
              cases e2
            | none =>
              rw [el] at h3
              have S : Stp ρ3 H3 ρ3 (upd H3 b (.dK (putK ks k u))) := Stp.write hl2
              exact h3 ρ3 _ u S (R3.write hl2 ⟨b, putK ks k u, hl2, upd_same, DenP.step R3 S (denP_put g3 dz)⟩) (Den.step R3 S _ _ dz)
        · exact h3.elim
      · exact h3.elim
    · exact h3.elim
  · exact h3.elim
end
/-! ### xs.clear() -/
def clrD : OpM := fun x xs M => match x, xs with
  | .ref l, [] => match M[l]? with
    | some (.lst _) => .ok .non (M.set l (.lst []))
    | _ => .err
  | _, _ => .err
theorem q_clr : QuietM clrD := by
  intro x xs M c fs M' e
  unfold clrD at e
  (repeat' split at e) <;> cases e
section
variable {X : Cx} {W : WX}
theorem o_clr : OpMR X "list.clear" clrD := by
  intro ρ M H x xs v vs Q Rl dx dv h
  unfold clrD at h
  split at h
  · rename_i l
    obtain ⟨p, u, rfl, hl, ho⟩ := den_ref.mp dx
    have ev := dens_nil.mp dv
    subst ev
    split at h
    · rename_i ds hm
      obtain ⟨b, ys, h1, h2, h3⟩ := Rl.obj l _ hm
      have hl2 := h1
      rw [hl] at h1
      cases h1
      have ep := ho b rfl
      subst ep
      have S : Stp ρ H ρ (upd H b (.lst [])) := Stp.write hl2
      exact ⟨_, mt_clear, b, ys, rfl, rfl, h2, h ρ _ .non S (Rl.write hl2 ⟨b, [], hl2, upd_same, dens_nil.mpr rfl⟩) (den_non.mpr rfl)⟩
    · exact h.elim
  · exact h.elim
end
end Mi

end

section
/-! Mi, part 54: max(xs, default=x) of whole numbers in a list. -/
namespace Mi
open PySem PySem.Spec PyProof.Rows L2
def maxI : List Int → Option Int
  | [] => none
  | n :: ns => some (ns.foldl max n)
def maxdD (x y : D) (M : MH) : R D := match x with
  | .lst ds => match intsD ds with
    | some ns => match maxI ns with
      | some m => .ok (.int m) M
      | none => .ok y M
    | none => .err
  | _ => .err
def mMaxD (ma mk : ME) : ME := fun env M => (ma env M).bind fun x M1 => (mk env M1).bind fun y M2 => maxdD x y M2
theorem reads_ints {h : Heap} : ∀ {ns : List Int} {us : List Value}, Vals (ns.map V.int) us → ∃ as, PySem.ReadsAll h us (ns.map PyData.int) as
  | [], us, r => by cases r; exact ⟨_, .nil⟩
  | n :: ns, us, r => by
    cases r with
    | cons r1 r2 =>
      obtain ⟨t, rfl⟩ := r1
      obtain ⟨as, q⟩ := reads_ints r2
      exact ⟨_, .cons (.int n t) q⟩
theorem depth_ints : ∀ ns : List Int, PyData.depthAll (ns.map PyData.int) = 0
  | [] => rfl
  | n :: ns => by
    show max (PyData.depth (.int n)) (PyData.depthAll (ns.map PyData.int)) = 0
    rw [depth_ints ns]; rfl
section
variable {X : Cx} {W : WX}
theorem s_maxd (c : Cf X) (hc : X.calm = true) {e ke : Expr} {me mk : ME} {p pos kp2 : Pos} (hm : X.mg "max" = none) (he : SE X W e me) (hke : SE X W ke mk) (hg : Gl X "max" := by rfl)
    (hs : starEach [e] X.env = (false, eval e X.env) :: starEach [] X.env := by rfl) (hall : (backToKw pos (keywordEach [⟨some (Str.ofString "default"), ke, kp2⟩] X.env)).all (·.1.isSome) = true := by rfl)
    (hks : (backToKw pos (keywordEach [⟨some (Str.ofString "default"), ke, kp2⟩] X.env)).filterMap (·.1) = [Str.ofString "default"] := by rfl)
    (hpl : ((backTo pos (starEach [e] X.env)).any (·.1) || (backToKw pos (keywordEach [⟨some (Str.ofString "default"), ke, kp2⟩] X.env)).any (·.1.isNone)) = false := by rfl) :
    SE X W (.Call (.Name "max" p) [e] [⟨some (Str.ofString "default"), ke, kp2⟩] pos) (mMaxD me mk) := by
  refine ⟨fun pins s σ H Q I h => ?_⟩
  refine wpAny_Call_Name_kw (ld_blt I hg hm boot_max ?_)
  refine PySem.W.callWith_of (P := fun _ => True) hpl (fun h _ => ⟨.machine, .inr (.inl rfl), .now⟩) (evalArgs_kw2 hall (thn ((a_cons (hs := hs) he a_nil).run pos pins s σ H (fun vs H1 => ∃ v d ρ1 M1 env, vs = [v] ∧ Rel X.K ρ1 M1 H1 ∧ EnR X.K ρ1 H1 env σ ∧ Den X.K ρ1 H1 d v ∧
    Ok X.K ρ1 H1 (DnD X.K) (fun c d H' => W c d σ H') Q ((mk env M1).bind fun k M2 => maxdD d k M2)) I ?_) fun us s1 ⟨vs, H1, I1, r1, v, d, ρ1, M1, env, ex, R1, E1, dv, q⟩ => ?_) hs)
  · obtain ⟨ρ, M, env, Rl, E, h⟩ := h
    refine ⟨ρ, M, env, Rl, E, ?_⟩
    unfold mMaxD at h
    unfold aCons aNil
    cases r : me env M with
    | err => rw [r] at h; exact h
    | exc c fs M1 => rw [r] at h; exact h
    | ok d M1 =>
      rw [r] at h
      simp only [R.bind_ok] at h ⊢
      intro ρ1 H1 vs S R1 dd
      obtain ⟨v, t, rfl, h1, h2⟩ := dens_cons.mp dd
      rw [dens_nil.mp h2]
      exact ⟨v, d, ρ1, M1, env, rfl, R1, E.step Rl S, h1, Ok.stp S h⟩
  subst ex
  refine thn ((k_cons hke k_nil).run pos pins s1 σ H1 (fun ws H2 => ∃ a ns w, ws = [w] ∧ v = .ref a ∧ SqL X.K H2 a (ns.map V.int) ∧ (∀ m, maxI ns = some m → Q (.int m) H2) ∧ (maxI ns = none → Q w H2)) I1 ?_) fun ws s2 ⟨zs, H2, I2, rz, a, ns, w0, ez, ev, hq, q2, q3⟩ => ⟨True.intro, ?_⟩
  · refine ⟨ρ1, M1, env, R1, E1, ?_⟩
    unfold aCons aNil
    cases r : mk env M1 with
    | err => rw [r] at q; exact q
    | exc c fs M2 => rw [r] at q; exact q
    | ok kd M2 =>
      rw [r] at q
      simp only [R.bind_ok] at q ⊢
      intro ρ2 H2 vs S R2 dd
      obtain ⟨u, t, rfl, h1, h2⟩ := dens_cons.mp dd
      rw [dens_nil.mp h2]
      unfold maxdD at q
      split at q
      · have dv2 := Den.step R1 S _ _ dv
        obtain ⟨a, xs, rfl, hs2, hd2⟩ := den_lst.mp dv2
        split at q
        · rename_i ns e
          rw [intsD_eq e] at hd2
          rw [dens_ints_inv hd2] at hs2
          refine ⟨a, ns, u, rfl, rfl, hs2.sq, fun m em => ?_, fun em => ?_⟩
          · rw [em] at q
            exact q ρ2 H2 _ S R2 (den_int.mpr rfl)
          · rw [em] at q
            exact q ρ2 H2 _ S R2 h1
        · exact q.elim
      · exact q.elim
  subst ez ev
  rw [hks, Vals.ref1 r1]
  cases rz with
  | cons r rr =>
    cases rr
    obtain ⟨its, rv, pl, hz⟩ := I2.list hq
    obtain ⟨as, rd⟩ := reads_ints (h := s2.heap) rv
    have hl := pl.isList
    refine PySem.W.max_list_default (vs := its.toArray) (xs := ns.map PyData.int) (as := as) (I2.ok.hd hc) hl (by simpa using rd) ?_ (by rw [depth_ints]; have := c.hu; omega) (fun h0 h' tk hk => ?_) fun y ys i v h' tk bs hx hi hr hk => ?_
    · refine ⟨fun x hx y hy => ?_, fun x hx => ?_⟩
      · obtain ⟨i, _, rfl⟩ := List.mem_map.mp hx
        obtain ⟨j, _, rfl⟩ := List.mem_map.mp hy
        rfl
      · obtain ⟨i, _, rfl⟩ := List.mem_map.mp hx
        exact fun z => nomatch z
    · have e0 : ns = [] := by simpa using h0
      exact ⟨w0, H2, I2.kept (t' := tk) hk, r, q3 (by rw [e0]; rfl)⟩
    · cases ns with
      | nil => cases hx
      | cons n ms =>
        rw [List.map_cons] at hx
        injection hx with e1 e2
        subst e1 e2
        rw [PySem.W.maxD_ints] at hr
        cases hr
        exact ⟨.int _, H2, I2.kept (t' := tk) hk, ⟨_, rfl⟩, q2 _ rfl⟩
end
end Mi

end

section
/-! Mi, part 55: list(range(a, b)). -/
namespace Mi
open PySem PySem.Spec PyProof.Rows L2
def lrgD (x y : D) (M : MH) : R D := match x, y with
  | .int i, .int j => if i.natAbs < lim ∧ j.natAbs < lim then .ok (.lst (rangeL i (j - i).toNat)) M else .err
  | _, _ => .err
def mLrg (ma mb : ME) : ME := fun env M => (ma env M).bind fun x M1 => (mb env M1).bind fun y M2 => lrgD x y M2
theorem dens_rg {K : PySem.W.Frag} {ρ : Rho} {H : Hp} (i : Int) (n : Nat) : Dens K ρ H (rangeL i n) ((List.range n).map fun (k : Nat) => V.int (i + k)) := by
  unfold rangeL
  generalize List.range n = l
  induction l with
  | nil => exact dens_nil.mpr rfl
  | cons k r ih => exact dens_cons.mpr ⟨_, _, rfl, den_int.mpr rfl, ih⟩
section
variable {X : Cx} {W : WX} {a b : Expr} {ma mb : ME}
theorem s_listRg (hc : X.calm = true) {p p2 q pos : Pos} (hm : X.mg "list" = none) (hm2 : X.mg "range" = none) (ha : SE X W a ma) (hb : SE X W b mb) (hg : Gl X "list" := by rfl) (hg2 : Gl X "range" := by rfl)
    (n1 : starEach [a, b] X.env = (false, eval a X.env) :: starEach [b] X.env := by rfl) (n2 : starEach [b] X.env = (false, eval b X.env) :: starEach [] X.env := by rfl)
    (np : (backTo pos (starEach [b] X.env)).any (·.1) = false := by rfl) (nq : (backTo q (starEach [b] X.env)).any (·.1) = false := by rfl)
    (na : starEach [.Call (.Name "range" p2) [a, b] [] q] X.env = (false, eval (.Call (.Name "range" p2) [a, b] [] q) X.env) :: starEach [] X.env := by rfl) :
    SE X W (.Call (.Name "list" p) [.Call (.Name "range" p2) [a, b] [] q] [] pos) (mLrg ma mb) := by
  refine pe_imp (pe_listRg hc hg hm (prg_2 hg2 hm2 ha hb n1 n2 nq) na) fun σ H Q q => ?_
  refine tm_bind (f := fun x env M1 => (mb env M1).bind fun y M2 => lrgD x y M2) q fun x M1 ρ1 H1 v env R1 E1 dx h => ?_
  refine ⟨ρ1, M1, env, R1, E1, h.bind fun y M2 ρ2 H2 w ey S R2 dy h2 => ?_⟩
  clear ey
  unfold lrgD at h2
  split at h2
  · rename_i i j
    rw [den_int.mp (Den.step R1 S _ _ dx), den_int.mp dy]
    split at h2
    · rename_i z
      have z1 := z.1
      have z2 := z.2
      unfold lim at z1 z2
      refine ⟨i, j, rfl, rfl, ⟨by omega, by omega, by omega, by omega, by omega⟩, fun p hp => newL R2 h2 (dens_rg i _) p hp⟩
    · exact h2.elim
  · exact h2.elim
end
end Mi

end

section
/-! Mi, part 56: a def that is told no cell, and tells plain things, dicts that stay, too, or one fresh cell of such: reckoned with no cells at all. -/
namespace Mi
open PySem PySem.Spec PyProof.Rows L2
section
variable {K : PySem.W.Frag} {ρ ρ' : Rho} {H : Hp}
mutual
theorem Den.to2 (f : ∀ (a : Addr) (xs : List V), LsV K ρ H a xs → LsV K ρ' H a xs) (g : ∀ (a : Addr) (kvs : List (Key × V)), Lk H a kvs → some a ∉ ρ.c → some a ∉ ρ'.c) : ∀ (d : D) (v : V), cln true d = true → Den K ρ H d v → Den K ρ' H d v
  | .non, v, c, h => by unfold Den at h ⊢; exact h
  | .bl b, v, c, h => by unfold Den at h ⊢; exact h
  | .int i, v, c, h => by unfold Den at h ⊢; exact h
  | .str x, v, c, h => by unfold Den at h ⊢; exact h
  | .ty n, v, c, h => by unfold Den at h ⊢; exact h
  | .adr a, v, c, h => by unfold Den at h ⊢; exact h
  | .ref l, v, c, h => by unfold cln at c; cases c
  | .tup ds, v, c, h => by
    unfold Den at h ⊢
    unfold cln at c
    obtain ⟨a, xs, e, h1, h2⟩ := h
    exact ⟨a, xs, e, h1, Dens.to2 f g ds xs c h2⟩
  | .lst ds, v, c, h => by
    unfold Den at h ⊢
    unfold cln at c
    obtain ⟨a, xs, e, h1, h2⟩ := h
    exact ⟨a, xs, e, f a xs h1, Dens.to2 f g ds xs c h2⟩
  | .dct ks ds, v, c, h => by
    unfold Den at h ⊢
    unfold cln at c
    rw [Bool.and_eq_true] at c
    obtain ⟨a, kvs, e, h1, n, h2, h3⟩ := h
    exact ⟨a, kvs, e, h1, g a kvs h1 n, h2, Dens.to2 f g ds _ c.2 h3⟩
  | .fn n, v, c, h => by unfold Den at h ⊢; exact h
  | .exo _ _ _ _, v, c, h => by unfold cln at c; cases c
theorem Dens.to2 (f : ∀ (a : Addr) (xs : List V), LsV K ρ H a xs → LsV K ρ' H a xs) (g : ∀ (a : Addr) (kvs : List (Key × V)), Lk H a kvs → some a ∉ ρ.c → some a ∉ ρ'.c) : ∀ (ds : List D) (vs : List V), clns true ds = true → Dens K ρ H ds vs → Dens K ρ' H ds vs
  | [], vs, c, h => by unfold Dens at h ⊢; exact h
  | d :: ds, vs, c, h => by
    unfold Dens at h ⊢
    unfold clns at c
    rw [Bool.and_eq_true] at c
    obtain ⟨v, r, e, h1, h2⟩ := h
    exact ⟨v, r, e, Den.to2 f g d v c.1 h1, Dens.to2 f g ds r c.2 h2⟩
end
theorem denP_to2 {κ : Type} {ps : List (κ × D)} {qs : List (κ × V)} (f : ∀ (a : Addr) (xs : List V), LsV K ρ H a xs → LsV K ρ' H a xs) (g : ∀ (a : Addr) (kvs : List (Key × V)), Lk H a kvs → some a ∉ ρ.c → some a ∉ ρ'.c) (c : clns true (ps.map (·.2)) = true) (h : DenP K ρ H ps qs) : DenP K ρ' H ps qs := by
  induction h with
  | nil => exact .nil
  | cons r _ ih =>
    rw [List.map_cons] at c
    unfold clns at c
    rw [Bool.and_eq_true] at c
    exact .cons ⟨r.1, Den.to2 f g _ _ c.1 r.2⟩ (ih c.2)
end
/-- what comes of a def that was reckoned with no cells -/
def tellX (M : MH) : R D → R D
  | .ok (.ref l) M' => match M'[l]? with
    | some (.lst xs) => if clns true xs = true then .ok (.ref M.length) (M ++ [.lst xs]) else .err
    | some (.dct kvs) => if clns true (kvs.map (·.2)) = true then .ok (.ref M.length) (M ++ [.dct kvs]) else .err
    | _ => .err
  | .ok d _ => if cln true d = true then .ok d M else .err
  | .exc c fs _ => if clnX fs = true then .exc c fs M else .err
  | .err => .err
def frX (m : MF) : MF := fun ds M => if clns true ds = true then tellX M (m ds []) else .err
section
variable {K : PySem.W.Frag} {ρ ρ1 : Rho} {M M1 : MH} {H H1 : Hp}
theorem lk_out (R : Rel K ρ M H) (S : Stp (ρ.bare H) H ρ1 H1) {a : Addr} {kvs : List (Key × V)} (h : Lk H1 a kvs) : some a ∉ ρ.c := by
  obtain ⟨o, e⟩ := h
  exact (R.out S).notFrz e
theorem den_outX (R : Rel K ρ M H) (S : Stp (ρ.bare H) H ρ1 H1) {d : D} {v : V} (c : cln true d = true) (h : Den K ρ1 H1 d v) : Den K ρ H1 d v := Den.to2 (fun _ _ => ls_out R S) (fun _ _ l _ => lk_out R S l) d v c h
/-- a cell that came within is one more -/
theorem add_out (R : Rel K ρ M H) (S : Stp (ρ.bare H) H ρ1 H1) {l : Nat} {a : Addr} (hl : ρ1.c[l]? = some (some a)) (ha : ∃ u, H1 a = some u) : Stp ρ H (ρ.add a) H1 ∧ some a ∉ ρ.c ∧
    (∀ (b : Addr) (xs : List V), LsV K ρ1 H1 b xs → LsV K (ρ.add a) H1 b xs) ∧ (∀ (b : Addr) (kvs : List (Key × V)), Lk H1 b kvs → some b ∉ ρ1.c → some b ∉ (ρ.add a).c) := by
  have hn : H a = none := by
    rcases S.new a (mem_of_get hl) with z | z
    · have z : some a ∈ ([] : List (Option Addr)) := z
      cases z
    · exact z
  have na : some a ∉ ρ.c := R.fresh hn
  refine ⟨⟨fun j o h => .inl (get_front h), fun b m => ?_, fun b o h _ => all_kept S h, rfl⟩, na, fun b xs h => ?_, fun b kvs h n m => ?_⟩
  · rcases List.mem_append.mp m with m | m
    · exact .inl m
    · have e : b = a := Option.some.inj (List.mem_singleton.mp m)
      rw [e]
      exact .inr hn
  · have o := ls_out R S h
    rcases h with ⟨h, n, m⟩ | h
    · rcases o with ⟨o1, o2, o3⟩ | o
      · refine .inl ⟨o1, fun z => ?_, o3⟩
        rcases List.mem_append.mp z with z | z
        · exact o2 z
        · have e : b = a := Option.some.inj (List.mem_singleton.mp z)
          rw [e] at n
          exact n (mem_of_get hl)
      · exact .inr o
    · exact .inr h
  · rcases List.mem_append.mp m with m | m
    · exact lk_out R S h m
    · have e : b = a := Option.some.inj (List.mem_singleton.mp m)
      rw [e] at n
      exact n (mem_of_get hl)
theorem Rel.cell1 (R : Rel K ρ M H) (S : Stp (ρ.bare H) H ρ1 H1) {l : Nat} {a : Addr} {mo : MO} (hl : ρ1.c[l]? = some (some a)) (ha : ∃ u, H1 a = some u) (new : ObjD K (ρ.add a) H1 M.length mo) : Rel K (ρ.add a) (M ++ [mo]) H1 := by
  obtain ⟨S2, na, _, _⟩ := add_out R S hl ha
  have R1 := R.out S
  refine ⟨?_, fun b m => ?_, fun i j b h1 h2 => ?_, fun j u e => ?_⟩
  · show (ρ.c ++ [some a]).length = _
    rw [List.length_append, List.length_append, R.len]; rfl
  · obtain ⟨n, xs, e⟩ := R1.hid b m
    refine ⟨fun z => ?_, xs, e⟩
    rcases List.mem_append.mp z with z | z
    · exact n z
    · have e2 : b = a := Option.some.inj (List.mem_singleton.mp z)
      subst e2
      obtain ⟨_, ys, e3⟩ := R.hid b m
      rcases S.new b (mem_of_get hl) with q | q
      · have q : some b ∈ ([] : List (Option Addr)) := q
        cases q
      · rw [e3] at q; cases q
  · have h1 : (ρ.c ++ [some a])[i]? = some (some b) := h1
    have h2 : (ρ.c ++ [some a])[j]? = some (some b) := h2
    have side : ∀ k : Nat, (ρ.c ++ [some a])[k]? = some (some b) → ρ.c[k]? = some (some b) ∨ (k = ρ.c.length ∧ b = a) := fun k h => by
      by_cases hk : k < ρ.c.length
      · rw [List.getElem?_append_left hk] at h
        exact .inl h
      · have hk2 := (List.getElem?_eq_some_iff.mp h).1
        rw [List.length_append] at hk2
        have hk3 : k = ρ.c.length := by
          have : [some a].length = 1 := rfl
          omega
        subst hk3
        rw [get_last] at h
        cases h
        exact .inr ⟨rfl, rfl⟩
    rcases side i h1 with q | ⟨q, e⟩ <;> rcases side j h2 with r | ⟨r, f⟩
    · exact R.inj i j b q r
    · subst f; exact absurd (mem_of_get q) na
    · subst e; exact absurd (mem_of_get r) na
    · rw [q, r]
  · by_cases hj : j < M.length
    · rw [List.getElem?_append_left hj] at e
      have x := R.obj j u e
      cases u with
      | lst ds =>
        obtain ⟨b, xs, h1, h2, h3⟩ := x
        exact ⟨b, xs, get_front h1, all_kept S h2, Dens.step R S2 _ _ h3⟩
      | dct kvs =>
        obtain ⟨b, xs, h1, h2, h3⟩ := x
        exact ⟨b, xs, get_front h1, all_kept S h2, DenP.step R S2 h3⟩
      | ins C fs =>
        obtain ⟨b, Ca, dx, gs, h1, cn, h2, h3⟩ := x
        exact ⟨b, Ca, dx, gs, get_front h1, cn, all_kept S h2, DenP.step R S2 h3⟩
      | gone => exact get_front x
    · have hj2 := (List.getElem?_eq_some_iff.mp e).1
      rw [List.length_append] at hj2
      have hj3 : j = M.length := by
        have : [mo].length = 1 := rfl
        omega
      subst hj3
      rw [get_last] at e
      cases e
      exact new
end
theorem sp_frX {K : PySem.W.Frag} {n : Nat} {m : MF} {vs : List V} {H : Hp} {Q : VK} {E : XK} (h : spM K n (frX m) vs H Q E) : spM K n m vs H Q E := by
  obtain ⟨hl, ρ, M, ds, R, dd, ok⟩ := h
  refine ⟨hl, ρ.bare H, [], ds, R.bare, ?_⟩
  unfold frX at ok
  split at ok
  rotate_left
  · exact ok.elim
  rename_i c
  refine ⟨Dens.to (fun _ _ => ls_in) (fun _ => rfl) _ _ c dd, ?_⟩
  cases e : m ds [] with
  | err => rw [e] at ok; exact ok
  | ok d M1 =>
    rw [e] at ok
    by_cases hr : ∃ l, d = .ref l
    · obtain ⟨l, rfl⟩ := hr
      unfold tellX at ok
      simp only at ok
      split at ok
      · rename_i xs hm
        split at ok
        · rename_i cx
          intro ρ1 H1 v S R1 dv
          obtain ⟨a, o, rfl, h1, h2⟩ := den_ref.mp dv
          obtain ⟨b, ys, g1, g2, g3⟩ := R1.obj l _ hm
          rw [h1] at g1; cases g1
          have eb := h2 b rfl; subst eb
          obtain ⟨S2, na, f, g⟩ := add_out R S h1 ⟨_, g2⟩
          have last : (ρ.add b).c[M.length]? = some (some b) := R.lastAt
          exact ok _ H1 _ S2 (R.cell1 S h1 ⟨_, g2⟩ ⟨b, ys, last, g2, Dens.to2 f g _ _ cx g3⟩) (den_ref.mpr ⟨b, some b, rfl, last, fun _ z => Option.some.inj z.symm⟩)
        · exact ok.elim
      · rename_i kvs hm
        split at ok
        · rename_i cx
          intro ρ1 H1 v S R1 dv
          obtain ⟨a, o, rfl, h1, h2⟩ := den_ref.mp dv
          obtain ⟨b, ys, g1, g2, g3⟩ := R1.obj l _ hm
          rw [h1] at g1; cases g1
          have eb := h2 b rfl; subst eb
          obtain ⟨S2, na, f, g⟩ := add_out R S h1 ⟨_, g2⟩
          have last : (ρ.add b).c[M.length]? = some (some b) := R.lastAt
          exact ok _ H1 _ S2 (R.cell1 S h1 ⟨_, g2⟩ ⟨b, ys, last, g2, denP_to2 f g cx g3⟩) (den_ref.mpr ⟨b, some b, rfl, last, fun _ z => Option.some.inj z.symm⟩)
        · exact ok.elim
      · exact ok.elim
    · have e2 : tellX M (.ok d M1) = if cln true d = true then .ok d M else .err := by
        cases d <;> first
          | rfl
          | exact (hr ⟨_, rfl⟩).elim
      rw [e2] at ok
      split at ok
      · rename_i cd
        exact fun ρ1 H1 v S R1 dv => ok ρ H1 v (stp_bare S) (R.out S) (den_outX R S cd dv)
      · exact ok.elim
  | exc cc fs M1 =>
    rw [e] at ok
    unfold tellX at ok
    simp only at ok
    split at ok
    · rename_i cf
      intro ρ1 H1 d cv cn S R1 x
      refine ok ρ H1 d cv cn (stp_bare S) (R.out S) ?_
      cases fs with
      | none => exact x
      | some fs =>
        obtain ⟨a, gs, h1, h2, h3⟩ := x
        exact ⟨a, gs, h1, h2, denP_to (fun _ _ => ls_out R S) cf h3⟩
    · exact ok.elim
theorem fm_frX {P : Program} {w : World} {K : PySem.W.Frag} {mg : Str → Option Value} {base : Heap} {k : Nat} {x : Str} {st : Stmt} {dvs : List V} {kws : List (Str × V)} {ps : List Str} {m : MF} (F : Fm P w K mg base k x st dvs kws ps m) : Fm P w K mg base k x st dvs kws ps (frX m) :=
  let ⟨f, fd, a, b, c⟩ := F.ex
  ⟨f, fd, a, b, ⟨fun vs H Q E h => h.1, fun A outer s H args us vs Q E r g e bt r2 h => c.go A outer s H args us vs Q E r g e bt r2 (sp_frX h)⟩⟩
end Mi

end

section
/-! Mi, part 57: words for reckoning by hand; comprehensions that change nothing. -/
namespace Mi
open PySem PySem.Spec PyProof.Rows L2
theorem mLc_fm {mi : MA} {g : D → En → Option En} {t : MT} {e : ME} {vs : List Nat} {env : En} {M : MH} {items : List D} (f : D → Option D) (hi : mi env M = .ok items M) (hl : items.length < 1000000) (h : ∀ x ∈ items, lcOne g t e (wipeE env vs) x M = .ok (f x) M) :
    mLc mi g t e vs env M = .ok (.lst (items.filterMap f)) M := by
  have go : ∀ xs : List D, (∀ x ∈ xs, lcOne g t e (wipeE env vs) x M = .ok (f x) M) → lcGo (lcOne g t e (wipeE env vs)) xs M = .ok (xs.filterMap f) M := by
    intro xs
    induction xs with
    | nil => intro _; rfl
    | cons x r ih =>
      intro q
      unfold lcGo
      rw [q x (List.mem_cons_self ..)]
      simp only [R.bind_ok]
      rw [ih fun y hy => q y (List.mem_cons_of_mem _ hy)]
      simp only [R.bind_ok, List.filterMap_cons]
      cases f x <;> rfl
  unfold mLc
  rw [hi]
  simp only [R.bind_ok]
  rw [if_pos (show items.length < lim from hl), go items h]
  rfl
theorem mLc_map {mi : MA} {g : D → En → Option En} {t : MT} {e : ME} {vs : List Nat} {env : En} {M : MH} {items : List D} (f : D → D) (hi : mi env M = .ok items M) (hl : items.length < 1000000) (h : ∀ x ∈ items, lcOne g t e (wipeE env vs) x M = .ok (some (f x)) M) :
    mLc mi g t e vs env M = .ok (.lst (items.map f)) M := by
  have z := mLc_fm (fun x => some (f x)) hi hl h
  rw [z]
  congr 2
  induction items with
  | nil => rfl
  | cons x r ih => simp
theorem frX_ok {m : MF} {ds : List D} {d : D} {M1 : MH} (c : clns true ds = true) (h : m ds [] = .ok d M1) (hr : ∀ l, d ≠ .ref l) (cd : cln true d = true) (M : MH) : frX m ds M = .ok d M := by
  unfold frX
  rw [if_pos c, h]
  have e2 : tellX M (.ok d M1) = if cln true d = true then .ok d M else .err := by
    cases d <;> first
      | rfl
      | exact (hr _ rfl).elim
  rw [e2, if_pos cd]
theorem frX_lst {m : MF} {ds xs : List D} {l : Nat} {M1 : MH} (c : clns true ds = true) (h : m ds [] = .ok (.ref l) M1) (hm : M1[l]? = some (.lst xs)) (cx : clns true xs = true) (M : MH) : frX m ds M = .ok (.ref M.length) (M ++ [.lst xs]) := by
  unfold frX
  rw [if_pos c, h]
  unfold tellX
  simp only [hm]
  rw [if_pos cx]
theorem frX_dct {m : MF} {ds : List D} {kvs : List (Key × D)} {l : Nat} {M1 : MH} (c : clns true ds = true) (h : m ds [] = .ok (.ref l) M1) (hm : M1[l]? = some (.dct kvs)) (cx : clns true (kvs.map (·.2)) = true) (M : MH) : frX m ds M = .ok (.ref M.length) (M ++ [.dct kvs]) := by
  unfold frX
  rw [if_pos c, h]
  unfold tellX
  simp only [hm]
  rw [if_pos cx]
theorem clns_map {α : Type} {f : α → D} {b : Bool} : ∀ {xs : List α}, (∀ x ∈ xs, cln b (f x) = true) → clns b (xs.map f) = true
  | [], _ => by unfold clns; rfl
  | x :: r, h => by
    rw [List.map_cons]
    unfold clns
    rw [h x (List.mem_cons_self ..), clns_map fun y hy => h y (List.mem_cons_of_mem _ hy)]
    rfl
theorem clns_mem {b : Bool} : ∀ {xs : List D}, (∀ x ∈ xs, cln b x = true) → clns b xs = true
  | [], _ => by unfold clns; rfl
  | x :: r, h => by
    unfold clns
    rw [h x (List.mem_cons_self ..), clns_mem fun y hy => h y (List.mem_cons_of_mem _ hy)]
    rfl
end Mi

end

section
/-! Mi, part 58: blocks by hand, a statement at a time (no unfolding of what stands behind). -/
namespace Mi
open PySem PySem.Spec PyProof.Rows L2
theorem sAsg {m : ME} {g : D → En → Option En} {rest : MS} {env env' : En} {M M1 : MH} {d : D} (h : m env M = .ok d M1) (hg : g d env = some env') : bCons (cAsg m g) rest env M = rest env' M1 := by
  unfold bCons cAsg
  rw [h]
  unfold andS
  simp only [hg, RS.bind_nx]
theorem sExp {m : ME} {rest : MS} {env : En} {M M1 : MH} {d : D} (h : m env M = .ok d M1) : bCons (cExp m) rest env M = rest env M1 := by
  unfold bCons cExp
  rw [h]
  unfold andS
  simp only [RS.bind_nx]
theorem sIf {c : MT} {a b rest : MS} {env env' : En} {M M1 M2 : MH} {k : Bool} (h : c env M = .ok k M1) (hb : (if k = true then a else b) env M1 = .nx env' M2) : bCons (cIf c a b) rest env M = rest env' M2 := by
  unfold bCons cIf
  rw [h]
  unfold andS
  cases k <;> simp only [if_true, if_false, Bool.false_eq_true] at hb ⊢ <;> rw [hb, RS.bind_nx]
theorem sIfRet {c : MT} {a b rest : MS} {env : En} {M M1 M2 : MH} {k : Bool} {d : D} (h : c env M = .ok k M1) (hb : (if k = true then a else b) env M1 = .ret d M2) : bCons (cIf c a b) rest env M = .ret d M2 := by
  unfold bCons cIf
  rw [h]
  unfold andS
  cases k <;> simp only [if_true, if_false, Bool.false_eq_true] at hb ⊢ <;> rw [hb, RS.bind_ret]
theorem sRet {m : ME} {rest : MS} {env : En} {M M1 : MH} {d : D} (h : m env M = .ok d M1) : bCons (cRet m) rest env M = .ret d M1 := by
  unfold bCons cRet
  rw [h]
  unfold andS
  simp only [RS.bind_ret]
theorem sFor {mi : MA} {g : D → En → Option En} {b rest : MS} {env env' : En} {M M1 M2 : MH} {items : List D} (h : mi env M = .ok items M1) (hf : forGo g b items env M1 = .nx env' M2) : bCons (cFor mi g b) rest env M = rest env' M2 := by
  unfold bCons cFor
  rw [h]
  unfold andS
  simp only [hf, RS.bind_nx]
theorem sForRet {mi : MA} {g : D → En → Option En} {b rest : MS} {env : En} {M M1 M2 : MH} {items : List D} {d : D} (h : mi env M = .ok items M1) (hf : forGo g b items env M1 = .ret d M2) : bCons (cFor mi g b) rest env M = .ret d M2 := by
  unfold bCons cFor
  rw [h]
  unfold andS
  simp only [hf, RS.bind_ret]
theorem sPut {mv mo mi : ME} {rest : MS} {env : En} {M M1 M2 M3 M4 : MH} {d o i : D} (h1 : mv env M = .ok d M1) (h2 : mo env M1 = .ok o M2) (h3 : mi env M2 = .ok i M3) (h4 : putD o i d M3 = some M4) : bCons (cPut mv mo mi) rest env M = rest env M4 := by
  unfold bCons cPut
  rw [h1]
  unfold andS
  simp only [h2, h3, h4, RS.bind_nx]
theorem sFn {n : Nat} {b : MS} {ds : List D} {M M1 : MH} {d : D} (h : b (ds.map some ++ List.replicate (n - ds.length) none) M = .ret d M1) : mFn n b ds M = .ok d M1 := by
  unfold mFn
  rw [h]
theorem sCel {ma : MA} {env : En} {M M1 : MH} {ds : List D} (h : ma env M = .ok ds M1) (hl : ds.length ≤ 1000000) : mN celD ma env M = .ok (.ref M1.length) (M1 ++ [.lst ds]) := by
  unfold mN
  rw [h, R.bind_ok]
  unfold celD
  exact if_pos (by rw [lim_n]; exact hl)
theorem sMt {m : ME} {T : String} {f : OpM} {ma : MA} {env : En} {M M1 M2 M3 : MH} {x y : D} {xs : List D} (h1 : m env M = .ok x M1) (hr : rcv T x M1 = true) (h2 : ma env M1 = .ok xs M2) (h3 : f x xs M2 = .ok y M3) : mMt T f m ma env M = .ok y M3 := by
  unfold mMt
  rw [h1, R.bind_ok, if_pos hr, h2, R.bind_ok, h3]
theorem aOne {m : ME} {env : En} {M M1 : MH} {x : D} (h : m env M = .ok x M1) : aCons m aNil env M = .ok [x] M1 := by
  unfold aCons aNil
  rw [h]
  simp only [R.bind_ok]
theorem aMore {m : ME} {ma : MA} {env : En} {M M1 M2 : MH} {x : D} {xs : List D} (h : m env M = .ok x M1) (h2 : ma env M1 = .ok xs M2) : aCons m ma env M = .ok (x :: xs) M2 := by
  unfold aCons
  rw [h]
  simp only [R.bind_ok, h2]
theorem nOp {f : OpN} {ma : MA} {env : En} {M M1 M2 : MH} {xs : List D} {y : D} (h : ma env M = .ok xs M1) (h2 : f xs M1 = .ok y M2) : mN f ma env M = .ok y M2 := by
  unfold mN
  rw [h, R.bind_ok, h2]
theorem vAt {i : Nat} {env : En} {d : D} (h : env[i]? = some (some d)) (M : MH) : mVar i env M = .ok d M := by
  unfold mVar
  rw [h]
theorem merge_nd : ∀ (kvs acc : List (Key × D)), (acc.map (·.1) ++ kvs.map (·.1)).Nodup → mergeM acc kvs = acc ++ kvs
  | [], acc, _ => by unfold mergeM; simp
  | (k, d) :: r, acc, nd => by
    unfold mergeM
    rw [List.foldl_cons]
    have pm : putM acc k d = acc ++ [(k, d)] := by
      unfold putM
      rw [if_neg]
      intro z
      obtain ⟨y, y1, y2⟩ := List.any_eq_true.mp z
      have y2 : y.1 = k := by simpa using y2
      have := (List.nodup_append.mp nd).2.2 y.1 (List.mem_map.mpr ⟨y, y1, rfl⟩) k (by simp)
      exact this y2
    rw [pm]
    have z := merge_nd r (acc ++ [(k, d)]) (by
      rw [List.map_append, List.append_assoc]
      simpa using nd)
    unfold mergeM at z
    rw [z, List.append_assoc]
    rfl
theorem pMore {m1 m2 : ME} {r : List (ME × ME)} {env : En} {M M1 M2 M3 : MH} {x y : D} {ps : List (D × D)} (h1 : m1 env M = .ok x M1) (h2 : m2 env M1 = .ok y M2) (h3 : mPairs r env M2 = .ok ps M3) : mPairs ((m1, m2) :: r) env M = .ok ((x, y) :: ps) M3 := by
  unfold mPairs
  simp only [h1, h2, h3, R.bind_ok]
theorem pNone {env : En} {M : MH} : mPairs [] env M = .ok [] M := rfl
theorem dispOk {ps : List (ME × ME)} {env : En} {M M2 : MH} {xs : List (D × D)} {kvs : List (Key × D)} (h1 : mPairs ps env (M ++ [.dct []]) = .ok xs M2) (h2 : keyed xs = some kvs) (h3 : M2[M.length]? = some (.dct [])) (h4 : kvs.length ≤ 15) (nd : (kvs.map (·.1)).Nodup) : mDisp ps env M = .ok (.ref M.length) (M2.set M.length (.dct kvs)) := by
  unfold mDisp
  rw [h1]
  simp only [R.bind_ok, h2, h3]
  rw [if_pos h4, merge_nd kvs [] (by simpa using nd)]
  rfl
theorem frzAt {m : ME} {env : En} {M M1 M2 : MH} {d d' : D} (h : m env M = .ok d M1) (h2 : frzD 12 d M1 = some (d', M2)) : mFrz m env M = .ok d' M2 := by
  unfold mFrz
  rw [h, R.bind_ok, h2]
theorem callAt {f : MF} {a b : Nat} {ss : List Src} {defs : List D} {ma mb : MA} {env : En} {M M1 M2 M3 : MH} {xs ys : List D} {d : D} (h1 : ma env M = .ok xs M1) (h2 : mb env M1 = .ok ys M2) (h3 : callM f a b ss defs xs ys M2 = .ok d M3) : mCall f a b ss defs ma mb env M = .ok d M3 := by
  unfold mCall
  rw [h1, R.bind_ok, h2, R.bind_ok, h3]
theorem opAt {f : Op2} {a b : ME} {env : En} {M M1 M2 : MH} {x y : D} {r : R D} (h1 : a env M = .ok x M1) (h2 : b env M1 = .ok y M2) (h3 : f x y M2 = r) : m2 f a b env M = r := by
  unfold m2
  rw [h1, R.bind_ok, h2, R.bind_ok, h3]
theorem itAt {m : ME} {env : En} {M M1 M2 : MH} {d : D} {xs : List D} (h1 : m env M = .ok d M1) (h2 : itemsHD d M1 = .ok xs M2) : mItemsH m env M = .ok xs M2 := by
  unfold mItemsH
  rw [h1, R.bind_ok, h2]
theorem truAt {m : ME} {env : En} {M M1 : MH} {d : D} {b : Bool} (h1 : m env M = .ok d M1) (h2 : truD M1 d = some b) : mTru m env M = .ok b M1 := by
  unfold mTru
  rw [h1]
  simp only [R.bind_ok, h2]
theorem blAt {m : ME} {env : En} {M M1 : MH} {b : Bool} (h1 : m env M = .ok (.bl b) M1) : mB m env M = .ok b M1 := by
  unfold mB
  rw [h1]
  rfl
end Mi

end

section
/-! Mi, part 59: list(t) and list + list as cells. -/
namespace Mi
open PySem PySem.Spec PyProof.Rows L2
section
variable {X : Cx}
def listCD : OpN := fun xs M => match xs with
  | [.tup ds] => .ok (.ref M.length) (M ++ [.lst ds])
  | [.lst ds] => .ok (.ref M.length) (M ++ [.lst ds])
  | [.ref l] => match M[l]? with
    | some (.lst ds) => .ok (.ref M.length) (M ++ [.lst ds])
    | _ => .err
  | _ => .err
theorem q_listC : QuietN listCD := by
  intro x M c fs M' e
  unfold listCD at e
  (repeat' split at e) <;> cases e
theorem o_listC : OpNR X (.type "list") listCD := by
  intro ρ M H xs vs Q Rl dv h
  unfold listCD at h
  split at h
  · obtain ⟨v, rfl, d⟩ := dens_one dv
    obtain ⟨a, ys, rfl, hs, hd⟩ := den_tup.mp d
    exact ⟨_, call_list_of, a, ys, rfl, .inr hs, newC Rl h hd⟩
  · obtain ⟨v, rfl, d⟩ := dens_one dv
    obtain ⟨a, ys, rfl, hs, hd⟩ := den_lst.mp d
    exact ⟨_, call_list_of, a, ys, rfl, .inl hs.sq, newC Rl h hd⟩
  · obtain ⟨v, rfl, d⟩ := dens_one dv
    split at h
    · rename_i ds hm
      obtain ⟨a, ys, rfl, hs, hd⟩ := cell_lst Rl d hm
      exact ⟨_, call_list_of, a, ys, rfl, .inl (SqL.of hs), newC Rl h hd⟩
    · exact h.elim
  · exact h.elim
def addCD : Op2 := fun x y M => match x, y with
  | .lst xs, .lst ys => if xs.length + ys.length ≤ lim then .ok (.ref M.length) (M ++ [.lst (xs ++ ys)]) else .err
  | .ref l, .lst ys => match M[l]? with
    | some (.lst xs) => if xs.length + ys.length ≤ lim then .ok (.ref M.length) (M ++ [.lst (xs ++ ys)]) else .err
    | _ => .err
  | _, _ => .err
theorem q_addC : Quiet2 addCD := by
  intro x y M c fs M' e
  unfold addCD at e
  (repeat' split at e) <;> cases e
theorem o_addC : Op2R X (binaryOp .Add) addCD := by
  intro ρ M H x y v w Q Rl dx dy h
  unfold addCD at h
  split at h
  · obtain ⟨a, xs, rfl, hs, hd⟩ := den_lst.mp dx
    obtain ⟨b, ys, rfl, hs2, hd2⟩ := den_lst.mp dy
    split at h
    · rename_i z
      exact ⟨_, op_join, a, b, xs, ys, rfl, rfl, hs.sq, hs2.sq, by rw [← hd.length, ← hd2.length]; exact lim_le z, newC Rl h (hd.append hd2)⟩
    · exact h.elim
  · rename_i l es
    obtain ⟨a, o, rfl, hl, ho⟩ := den_ref.mp dx
    obtain ⟨b, ys, rfl, hs2, hd2⟩ := den_lst.mp dy
    split at h
    · rename_i ds hm
      obtain ⟨a', xs, h1, h2, hd⟩ := Rl.obj l _ hm
      rw [hl] at h1
      cases h1
      have e := ho a' rfl
      subst e
      split at h
      · rename_i z
        exact ⟨_, op_join, _, b, xs, ys, rfl, rfl, SqL.of h2, hs2.sq, by rw [← hd.length, ← hd2.length]; exact lim_le z, newC Rl h (hd.append hd2)⟩
      · exact h.elim
    · exact h.elim
  · exact h.elim
/-- xs.pop(i), from the front -/
def popAtD : OpM := fun x xs M => match x with
  | .ref l => match M[l]? with
    | some (.lst ds) => match xs with
      | [.int i] => if 0 ≤ i ∧ i < 1000000 then (match ds[i.toNat]? with
        | some y => .ok y (M.set l (.lst (ds.eraseIdx i.toNat)))
        | none => .err) else .err
      | _ => .err
    | _ => .err
  | _ => .err
theorem q_popAt : QuietM popAtD := by
  intro x xs M c fs M' e
  unfold popAtD at e
  (repeat' split at e) <;> cases e
theorem Dens.erase {K : PySem.W.Frag} {ρ : Rho} {H : Hp} : ∀ {ds : List D} {xs : List V} (i : Nat), Dens K ρ H ds xs → Dens K ρ H (ds.eraseIdx i) (xs.eraseIdx i)
  | [], xs, i, h => by
    rw [dens_nil] at h
    subst h
    exact dens_nil.mpr rfl
  | d :: ds, xs, 0, h => by
    obtain ⟨v, r, rfl, h1, h2⟩ := dens_cons.mp h
    exact h2
  | d :: ds, xs, i + 1, h => by
    obtain ⟨v, r, rfl, h1, h2⟩ := dens_cons.mp h
    exact dens_cons.mpr ⟨v, _, rfl, h1, h2.erase i⟩
theorem o_popAt : OpMR X "list.pop" popAtD := by
  intro ρ M H x xs v vs Q Rl dx dv h
  unfold popAtD at h
  split at h
  · rename_i l
    obtain ⟨p, u, rfl, hl, ho⟩ := den_ref.mp dx
    split at h
    · rename_i ds hm
      obtain ⟨b, ys, h1, h2, h3⟩ := Rl.obj l _ hm
      have hl2 := h1
      rw [hl] at h1
      cases h1
      have ep := ho b rfl
      subst ep
      split at h
      · rename_i i
        split at h
        · rename_i hi
          split at h
          · rename_i y ey
            obtain ⟨w, e1, e2⟩ := h3.get ey
            have S : Stp ρ H ρ (upd H b (.lst (ys.eraseIdx i.toNat))) := Stp.write hl2
            obtain ⟨v1, rfl, d1⟩ := dens_one dv
            obtain rfl := den_int.mp d1
            have len := (List.getElem?_eq_some_iff.mp e1).1
            have sx : seqIndex? i ys.length = some i.toNat := by
              unfold seqIndex?
              have n0 : ¬ i < 0 := by omega
              have n1 : i < (ys.length : Int) := by omega
              simp [n0, n1, hi.1]
            refine ⟨_, mt_popAt, b, ys, i, i.toNat, w, rfl, rfl, h2, by omega, by omega, sx, e1, ?_⟩
            exact h ρ _ w S (Rl.write hl2 ⟨b, ys.eraseIdx i.toNat, hl2, upd_same, Dens.step Rl S _ _ (h3.erase i.toNat)⟩) (Den.step Rl S _ _ e2)
          · exact h.elim
        · exact h.elim
      · exact h.elim
    · exact h.elim
  · exact h.elim
end
end Mi

end

section
/-! Mi, part 60: things made whose __init__ has keyword-only parameters. -/
namespace Mi
open PySem PySem.Spec PyProof.Rows L2
def AtMK (K : PySem.W.Frag) (mg : Str → Option Value) (cls m qual : Str) (st : Stmt) (kws : List (Str × V)) : Prop := ∃ C f fd, OwnC K mg cls C ∧ PySem.W.findIn K (.ref C) m = some (some (.ref f)) ∧ PySem.W.isFn K (.ref f) = true ∧ FunD K m qual (defArgs st) (defBody st) (defScope st) [] kws f fd
structure FmtK (P : Program) (w : World) (K : PySem.W.Frag) (mg : Str → Option Value) (base : Heap) (k : Nat) (cls m qual : Str) (st : Stmt) (kws : List (Str × V)) (ps : List Str) (mf : MF) : Prop where
  ex : ∃ C f fd, OwnC K mg cls C ∧ PySem.W.findIn K (.ref C) m = some (some (.ref f)) ∧ PySem.W.isFn K (.ref f) = true ∧ FunD K m qual (defArgs st) (defBody st) (defScope st) [] kws f fd ∧ FnG P w K mg base k f fd ps (spM K ps.length mf)
theorem mt_sealK {P : Program} {w : World} {K : PySem.W.Frag} {mg : Str → Option Value} {base : Heap} {k : Nat} {cls m qual : Str} {st : Stmt} {kws : List (Str × V)} {ps : List Str} {mf mf' : MF} (e : mf = mf') (F : FmtK P w K mg base k cls m qual st kws ps mf') : FmtK P w K mg base k cls m qual st kws ps mf := by
  rw [e]
  exact F
theorem mt_mkK {P : Program} {w : World} {K : PySem.W.Frag} {mg : Str → Option Value} {base : Heap} {k : Nat} {cls m x : Str} {st : Stmt} {kws : List (Str × V)} {ps : List Str} {b : MS} {n : Nat} (N : List Str) (a : AtMK K mg cls m x st kws) (S : FnScope N ps (defScope st)) (hn : N.length = n)
    (body : ∀ (f : Addr) (cdv : Value) (A : Around) (outer : List Env) (s : Shared) (H : Hp) (E : XK), Cg (cxOf (L2.CX P w) P w K mg base N x (defScope st) f cdv A outer s H E) (WE E) k →
      PassesOwn (model P w) (cxOf (L2.CX P w) P w K mg base N x (defScope st) f cdv A outer s H E).A (cxOf (L2.CX P w) P w K mg base N x (defScope st) f cdv A outer s H E).env (cxOf (L2.CX P w) P w K mg base N x (defScope st) f cdv A outer s H E).xe →
      SB (cxOf (L2.CX P w) P w K mg base N x (defScope st) f cdv A outer s H E) (WE E) (defBody st) b) : FmtK P w K mg base (k + 1) cls m x st kws ps (mFn n b) := by
  obtain ⟨C, f, fd, h1, h2, h3, F⟩ := a
  refine ⟨C, f, fd, h1, h2, h3, F, fng_of F S (fun vs H Q E h => h.1) fun cdv A outer s H vs Q E rm gd h => ?_⟩
  obtain ⟨hl, ρ, M, ds, Rl, dd, ok⟩ := h
  have hb := body f cdv A outer s H E ⟨rm, gd, takes_of rfl rfl rfl rfl⟩ (passes_of rfl)
  refine ⟨_, hb, ρ, M, ds.map some ++ List.replicate (n - ds.length) none, Rl, by rw [← hn]; exact en_start dd, ?_⟩
  unfold mFn at ok
  cases e : b (ds.map some ++ List.replicate (n - ds.length) none) M with
  | nx env M1 =>
    rw [e] at ok
    exact fun ρ1 H1 σ1 S1 R1 E1 => ok ρ1 H1 .non S1 R1 (den_non.mpr rfl)
  | ret d M1 => rw [e] at ok; exact ok
  | bk env M1 => rw [e] at ok; exact ok.elim
  | ct env M1 => rw [e] at ok; exact ok.elim
  | exc c fs env M1 =>
    rw [e] at ok
    exact fun ρ1 H1 d σ1 cv cn S1 R1 x1 _ => ok ρ1 H1 d cv cn S1 R1 x1
  | err => rw [e] at ok; exact ok.elim
/-! ### made -/
def mkD (cls : Str) (mf : MF) (n nk : Nat) (cs : List Src) (dd us ws : List D) (M : MH) : R D := if us.length = n ∧ ws.length = nk then (match picks (.ref M.length :: us) dd ws cs with
  | some zs => (mf zs (M ++ [.ins cls []])).bind fun d M2 => match d with
    | .non => .ok (.ref M.length) M2
    | _ => .err
  | none => .err) else .err
def mMakeK (cls : Str) (mf : MF) (n nk : Nat) (cs : List Src) (dd : List D) (ma mb : MA) : ME := fun env M => (ma env M).bind fun us M1 => (mb env M1).bind fun ws M2 => mkD cls mf n nk cs dd us ws M2
section
variable {X : Cx} {W : WX} {j k n : Nat} {cls : Str} {f C : Addr} {fd : FuncData} {ps ks : List Str} {mf : MF} {cs : List Src} {dv : List V} {dd : List D} {pins : List (Addr × Obj)} {σ : L2.St} {H : Hp} {s : Shared} {Q : VK} {us ws : List Value} {vs xs : List V} {ρ : Rho} {M : MH} {ds es : List D}
theorem make_m (mk : Mk X.K C f) (oc : OwnC X.K X.mg cls C) (F : FnG X.prog X.w X.K X.mg X.base j f fd ps (spM X.K ps.length mf)) (c : Cg X W k) (hj : j + 1 ≤ k) (bd : Bd X.K fd ps (n + 1) ks dv cs) (fx : FixS X.K dd dv) (hc : cs.length = ps.length)
    (I : Inv X pins σ H s) (Rl : Rel X.K ρ M H) (r : Vals vs us) (r2 : Vals xs ws) (d1 : Dens X.K ρ H ds vs) (d2 : Dens X.K ρ H es xs)
    (h : Ok X.K ρ H (DnD X.K) (fun c d H' => W c d σ H') Q (mkD cls mf n ks.length cs dd ds es M)) : wpAny (model X.prog X.w) X.A (call (.ref C) us (ks.zip ws)) (EP X pins σ Q) X.xe s := by
  unfold mkD at h
  split at h
  rotate_left
  · exact h.elim
  rename_i len
  cases e : picks (.ref M.length :: ds) dd es cs with
  | none => rw [e] at h; exact h.elim
  | some ys =>
    rw [e] at h
    simp only at h
    have hx : H (s.heap.objs.size + 1) = none := I.hok.fresh (Nat.le_succ _)
    have hdx : H s.heap.objs.size = none := I.hok.fresh (Nat.le_refl _)
    have ne : s.heap.objs.size ≠ s.heap.objs.size + 1 := Nat.ne_of_lt (Nat.lt_succ_self _)
    generalize hX : s.heap.objs.size + 1 = x at hx ne
    generalize hDX : s.heap.objs.size = dx at hdx ne
    have I2 : Inv X pins σ (upd (upd H dx (.own x)) x (.ins C dx [])) { s with heap := (s.heap.push PySem.W.emptyDict).push (PySem.W.instObj C s.heap.objs.size) } := by
      have := Inv.made (C := C) I
      rw [← hX, ← hDX]
      exact this
    have hx2 : (upd H dx (.own x)) x = none := by rw [upd_ne (Ne.symm ne)]; exact hx
    have S0 : Stp ρ H (ρ.add x) (upd (upd H dx (.own x)) x (.ins C dx [])) := (Stp.alloc hdx).trans (Stp.cell hx2)
    have R2 : Rel X.K (ρ.add x) (M ++ [.ins cls []]) (upd (upd H dx (.own x)) x (.ins C dx [])) := (Rl.alloc hdx).cell hx2 ⟨x, C, dx, [], Rl.lastAt, .inl oc.nm, upd_same, .nil⟩
    have dself : Dens X.K (ρ.add x) (upd (upd H dx (.own x)) x (.ins C dx [])) (.ref M.length :: ds) (V.ref x :: vs) := dens_cons.mpr ⟨_, _, rfl, den_ref.mpr ⟨x, some x, rfl, Rl.lastAt, fun b e => (Option.some.inj e).symm⟩, Dens.step Rl S0 _ _ d1⟩
    have des : Dens X.K (ρ.add x) (upd (upd H dx (.own x)) x (.ins C dx [])) es xs := Dens.step Rl S0 _ _ d2
    obtain ⟨mv, rm', hb⟩ := bd
    have rself : Vals (V.ref x :: vs) (Value.ref x :: us) := .cons rfl r
    obtain ⟨zv, z1, z2⟩ := hb { s with heap := (s.heap.push PySem.W.emptyDict).push (PySem.W.instObj C s.heap.objs.size) } (Value.ref x :: us) ws I2.kIn (by rw [List.length_cons, ← r.length, ← d1.length, len.1]) (by rw [← r2.length, ← d2.length, len.2])
    obtain ⟨yv, g1, g2⟩ := picks_rel (dens_iff.mp dself) (dens_iff.mp (fx (ρ.add x) _)) (dens_iff.mp des) e
    obtain ⟨yu, g3, g4⟩ := picks_rel rself rm' r2 g1
    rw [z1] at g3
    cases g3
    have hq : spM X.K ps.length mf yv (upd (upd H dx (.own x)) x (.ins C dx [])) (fun v H2 => v = .non ∧ Q (.ref x) H2) (fun c d H' => W c d σ H') := by
      refine ⟨(picks_len g1).trans hc, ρ.add x, M ++ [.ins cls []], ys, R2, dens_iff.mpr g2, ?_⟩
      cases e3 : mf ys (M ++ [.ins cls []]) with
      | err => rw [e3] at h; exact h.elim
      | exc cc fs M2 =>
        rw [e3] at h
        exact fun ρ' H' d cv cn S R' xr => h ρ' H' d cv cn (S0.trans S) R' xr
      | ok d M2 =>
        rw [e3] at h
        simp only [R.bind_ok] at h
        split at h
        · intro ρ' H' v S R' dv'
          refine ⟨den_non.mp dv', h ρ' H' (.ref x) (S0.trans S) R' ?_⟩
          rcases S.pre _ _ (Rl.lastAt (p := x)) with q | q
          · exact den_ref.mpr ⟨x, some x, rfl, q, fun b e => (Option.some.inj e).symm⟩
          · exact den_ref.mpr ⟨x, none, rfl, q, fun b e => by cases e⟩
        · exact h.elim
    have gu : (X.A.under (.builtin "type.__call__" ⟨.ref C :: us, ks.zip ws⟩)).guards = some [] := by
      simp only [Around.under, Code.guards, Code.isGuard, c.gd]
      first
        | (rw [if_neg (by decide)]; rfl)
        | rfl
    subst hX
    refine wpAny_call (make_map (f := f) I.kIn mk.makes mk.init (beq_iff_eq.mp mk.fn) (codeAny_mono (F.go _ X.stack _ _ ⟨Value.ref (s.heap.objs.size + 1) :: us, ks.zip ws⟩ zv yv _ _ ((c.rm.mono hj).make C us (ks.zip ws)) gu
      (I2.env0.make C us (ks.zip ws)) z2 g4 hq) fun res s' hq' => ?_))
    cases res with
    | error e => exact c.tk e s' (XE.of_call I2 (fun _ _ _ z => z) hq')
    | ok fl =>
      cases fl with
      | ret u =>
        obtain ⟨v, H', I3, rv, ev, q3⟩ := I2.after hq'
        subst ev
        exact ⟨rv, ⟨V.ref (s.heap.objs.size + 1), H', I3, rfl, q3⟩⟩
      | next => exact False.elim hq'
      | brk => exact False.elim hq'
      | cont => exact False.elim hq'
variable {qual : Str} {st : Stmt} {kws : List (Str × V)} {p pos : Pos} {kw : List Keyword} {mb : MA}
abbrev BdsK (X : Cx) (qual : Str) (st : Stmt) (kws : List (Str × V)) (ps : List Str) (n : Nat) (ks : List Str) (dv : List V) (cs : List Src) : Prop :=
  ∀ f fd, FunD X.K "__init__" qual (defArgs st) (defBody st) (defScope st) [] kws f fd → Bd X.K fd ps n ks dv cs
/-- C() -/
theorem s_makeK0 (F : FmtK X.prog X.w X.K X.mg X.base j cls "__init__" qual st kws ps mf) (mk : ∀ C, OwnC X.K X.mg cls C → PySem.W.makesIn X.K C = true ∧ PySem.W.keepIn X.K (.ref C) = true) (c : Cg X W k) (hj : j + 1 ≤ k) (bd : BdsK X qual st kws ps 1 [] dv cs) (fx : FixS X.K dd dv)
    (hg : Gl X cls := by rfl) (hc : cs.length = ps.length := by rfl) (hdb : (cls == ("__debug__" : Str)) = false := by decide) :
    SE X W (.Call (.Name cls p) [] [] pos) (mMakeK cls mf 0 0 cs dd aNil aNil) := by
  obtain ⟨C, f, fd, oc, fi, fn, FD, G⟩ := F.ex
  obtain ⟨mk1, mk2⟩ := mk C oc
  refine ⟨fun pins s σ H Q I h => ?_⟩
  refine wpAny_Call_Name_kw (ld_glob I hg oc.gl ?_ hdb)
  obtain ⟨ρ, M, env, Rl, E, h⟩ := h
  exact PySem.W.callWith_K0 I.kIn mk2 (make_m (ks := []) (n := 0) (us := []) (vs := []) (ds := []) (ws := []) (xs := []) (es := []) ⟨mk1, fi, fn, mk2⟩ oc G c hj (bd f fd FD) fx hc I Rl .nil .nil (dens_nil.mpr rfl) (dens_nil.mpr rfl) h)
/-- C(name=..) -/
theorem s_makeKW (F : FmtK X.prog X.w X.K X.mg X.base j cls "__init__" qual st kws ps mf) (mk : ∀ C, OwnC X.K X.mg cls C → PySem.W.makesIn X.K C = true ∧ PySem.W.keepIn X.K (.ref C) = true) (c : Cg X W k) (hj : j + 1 ≤ k) (bd : BdsK X qual st kws ps 1 ks dv cs) (fx : FixS X.K dd dv)
    (hk : SK X W kw mb) (hks : (backToKw pos (keywordEach kw X.env)).filterMap (·.1) = ks := by rfl) (hg : Gl X cls := by rfl) (hc : cs.length = ps.length := by rfl)
    (hall : (backToKw pos (keywordEach kw X.env)).all (·.1.isSome) = true := by rfl)
    (hdb : (cls == ("__debug__" : Str)) = false := by decide)
    (hpl : ((backTo pos (starEach [] X.env)).any (·.1) || (backToKw pos (keywordEach kw X.env)).any (·.1.isNone)) = false := by rfl) :
    SE X W (.Call (.Name cls p) [] kw pos) (mMakeK cls mf 0 ks.length cs dd aNil mb) := by
  obtain ⟨C, f, fd, oc, fi, fn, FD, G⟩ := F.ex
  obtain ⟨mk1, mk2⟩ := mk C oc
  refine ⟨fun pins s σ H Q I h => ?_⟩
  refine wpAny_Call_Name_kw (ld_glob I hg oc.gl ?_ hdb)
  refine PySem.W.callWith_KW0 (h₀ := X.base) I.ok.mod.kin mk2 hall (thn (hk.run pos pins s σ H (fun xs H2 => ∃ ρ2 M2 es, Rel X.K ρ2 M2 H2 ∧ Dens X.K ρ2 H2 es xs ∧ Ok X.K ρ2 H2 (DnD X.K) (fun c d H' => W c d σ H') Q (mkD cls mf 0 ks.length cs dd [] es M2)) I ?_) fun ws s2 ⟨xs, H2, I2, r2, ρ2, M2, es2, R2, d2, q2⟩ => ⟨I2.kIn, ?_⟩) hpl
  · obtain ⟨ρ, M, env, Rl, E, h⟩ := h
    exact ⟨ρ, M, env, Rl, E, Ok.bind (f := fun es M2 => mkD cls mf 0 ks.length cs dd [] es M2) h fun es2 M2 ρ2 H2 xs _ S R2 d2 q2 => ⟨ρ2, M2, es2, R2, d2, q2⟩⟩
  · rw [hks]
    exact make_m (us := []) (vs := []) (ds := []) ⟨mk1, fi, fn, mk2⟩ oc G c hj (bd f fd FD) fx hc I2 R2 .nil r2 (dens_nil.mpr rfl) d2 q2
end
theorem atm_mkl {K : PySem.W.Frag} {mg : Str → Option Value} {cls m qual : Str} {st : Stmt} {C f Dk : Addr} {oc : Value} {od an : Option Addr} {sl : Array (Option Value)} {dc pm cd ct : Value} {kws : List (Str × V)} (o : OwnC K mg cls C) (fi : PySem.W.findIn K (.ref C) m = some (some (.ref f))) (fn : PySem.W.isFn K (.ref f) = true)
    (l : K.lookup f = some ⟨oc, od, .func (PySem.W.fnOf m qual (defArgs st) (defBody st) (defScope st) .none (.ref Dk) dc pm an cd ct), sl⟩) (c : PySem.W.codeIn K cd qual = true) (k : PySem.W.keepIn K (.ref f) = true)
    (d : ∀ q ∈ kws, ∃ u, PySem.W.nsIn K Dk q.1 = some (some u) ∧ RelV q.2 u) : AtMK K mg cls m qual st kws :=
  ⟨C, f, _, o, fi, fn, ⟨⟨oc, od, .none, .ref Dk, dc, pm, an, cd, ct, sl, rfl, l, c, .inl ⟨rfl, rfl⟩, .inr ⟨Dk, rfl, d⟩⟩, k⟩⟩
end Mi

end

section
/-! Mi, part 61: methods called with nothing; max of one list. -/
namespace Mi
open PySem PySem.Spec PyProof.Rows L2
def mMeth0 (cls mn : Str) (mf : MF) (mo : ME) : ME := fun env M => (mo env M).bind fun x M1 => if instOf cls mn x M1 = true then mf [x] M1 else .err
section
variable {X : Cx} {W : WX} {k j : Nat} {cls mn qual : Str} {st : Stmt} {ps : List Str} {mf : MF} {o : Expr} {mo : ME} {apos pos : Pos}
theorem s_meth0 {pl : Sem Bool} (F : Fmt X.prog X.w X.K X.mg X.base j cls mn qual st ps mf) (c : Cg X W k) (hj : j ≤ k) (hps : ps.length = 1) (bd : ∀ f fd, FunD X.K mn qual (defArgs st) (defBody st) (defScope st) [] [] f fd → Binds X.K fd ps [])
    (ho : SE X W o mo)
    (ht : eval (.Call (.Attribute o mn apos) [] [] pos) X.env = (do
      let ov ← eval o X.env
      standAt apos.atName
      let (f, first) ← holding [ov] (getMethod ov mn pl)
      callWith pos f first (backTo pos (starEach [] X.env)) (backToKw pos (keywordEach [] X.env))) := by rfl) :
    SE X W (.Call (.Attribute o mn apos) [] [] pos) (mMeth0 cls mn mf mo) := by
  obtain ⟨C, f, fd, oc, fi, fn, FD, G⟩ := F.ex
  refine ⟨fun pins s σ H Q I h => ?_⟩
  refine PySem.W.methodCall_KW (pl := pl) (thn (ho.run pins s σ H (fun v H1 => ∃ a dx gs, v = .ref a ∧ H1 a = some (.ins C dx gs) ∧ gs.lookup mn = none ∧ spM X.K ps.length mf [.ref a] H1 Q (fun c d H' => W c d σ H')) I ?_)
    fun u s1 ⟨v, H1, I1, rv, a, dx, gs, ev, ea, l, q⟩ => ?_) ht
  · refine tm_bind (f := fun x env M1 => if instOf cls mn x M1 = true then mf [x] M1 else .err) h fun x M1 ρ1 H1 v env R1 E1 dv h => ?_
    split at h
    rotate_left
    · exact h.elim
    rename_i hi
    obtain ⟨a, dx, gs, rfl, ea, l⟩ := instOf_ok R1 oc.nm dv hi
    exact ⟨a, dx, gs, rfl, ea, l, hps.symm, ρ1, M1, [x], R1, dens_cons.mpr ⟨_, _, rfl, dv, dens_nil.mpr rfl⟩, h⟩
  · subst ev
    obtain rfl : u = Value.ref a := rv
    refine getmeth_ok I1 ea oc.cl ⟨fi, fn, FD.kp⟩ l ?_
    refine PySem.W.callWith_K0 (first := [.ref a]) I1.kIn FD.kp ?_
    have bt := bd f fd FD s1 [Value.ref a] I1.kIn (by rw [hps]; rfl)
    exact run_g (vs := [V.ref a]) (us := [Value.ref a]) (kw := []) G (c.rm.mono hj) c.gd c.tk I1 bt (.cons (show RelV (V.ref a) (Value.ref a) from rfl) .nil) q
theorem foldl_max1 : ∀ (ns : List Int) (n : Int), (ns.foldl max n = n ∨ ns.foldl max n ∈ ns) ∧ n ≤ ns.foldl max n ∧ ∀ y ∈ ns, y ≤ ns.foldl max n
  | [], n => ⟨.inl rfl, by simp, fun y h => by cases h⟩
  | m :: ns, n => by
    obtain ⟨h1, h2, h3⟩ := foldl_max1 ns (max n m)
    refine ⟨?_, by rw [List.foldl_cons]; omega, fun y hy => ?_⟩
    · rcases h1 with h1 | h1
      · rw [List.foldl_cons, h1]
        by_cases z : m ≤ n
        · exact .inl (by omega)
        · exact .inr (by rw [show max n m = m by omega]; exact List.mem_cons_self ..)
      · exact .inr (List.mem_cons_of_mem _ h1)
    · rw [List.foldl_cons]
      rcases List.mem_cons.mp hy with rfl | hy
      · omega
      · exact h3 y hy
theorem greatI_of {ns : List Int} {m : Int} (h : m ∈ ns) (l : ∀ y ∈ ns, y ≤ m) : greatI ns = some m := by
  cases ns with
  | nil => cases h
  | cons n ns =>
    obtain ⟨h1, h2, h3⟩ := foldl_max1 ns n
    have a : ns.foldl max n ≤ m := by
      rcases h1 with h1 | h1
      · rw [h1]; exact l n (List.mem_cons_self ..)
      · exact l _ (List.mem_cons_of_mem _ h1)
    have b : m ≤ ns.foldl max n := by
      rcases List.mem_cons.mp h with rfl | h
      · exact h2
      · exact h3 m h
    show some (ns.foldl max n) = some m
    rw [show ns.foldl max n = m by omega]
def max1D : OpN := fun xs M => match xs with
  | [.lst ds] => match intsD ds with
    | some ns => match greatI ns with
      | some m => .ok (.int m) M
      | none => .err
    | none => .err
  | _ => .err
theorem q_max1 : QuietN max1D := by
  intro x M c fs M' e
  unfold max1D at e
  (repeat' split at e) <;> cases e
theorem o_max1 (hc : X.calm = true) : OpNR X (.builtin "max") max1D := by
  intro ρ M H xs vs Q Rl dv h
  unfold max1D at h
  split at h
  · obtain ⟨v, rfl, d⟩ := dens_one dv
    obtain ⟨a, ys, rfl, hs, hd⟩ := den_lst.mp d
    split at h
    · rename_i ns e
      rw [intsD_eq e] at hd
      rw [dens_ints_inv hd] at hs
      split at h
      · rename_i m em
        refine ⟨_, cr_max hc, a, ns, rfl, hs.sq, ?_, fun k hk hle => ?_⟩
        · cases ns with
          | nil => cases em
          | cons _ _ => simp
        · rw [greatI_of hk hle] at em
          cases em
          exact here Rl h (den_int.mpr rfl)
      · exact h.elim
    · exact h.elim
  · exact h.elim
/-! ### len of dicts -/
theorem cr_lenDict : CallR X (.builtin "len") (fun xs H Q => ∃ (a : Addr) (kvs : List (Key × V)), xs = [.ref a] ∧ Rd H a (.dK kvs) ∧ Q (.int kvs.length) H) := by
  intro pins s σ H xs us Q I r h
  obtain ⟨a, kvs, rfl, hd, q⟩ := h
  rw [Vals.ref1 r]
  exact d_len I hd fun t s' I2 => ⟨.int kvs.length, H, I2, ⟨_, rfl⟩, q⟩
def lenHD : OpN := fun xs M => match xs with
  | [.dct ks ds] => if ks.length = ds.length then .ok (.int ks.length) M else .err
  | [.ref l] => match M[l]? with
    | some (.dct kvs) => .ok (.int kvs.length) M
    | _ => lenD [.ref l] M
  | xs => lenD xs M
theorem q_lenH : QuietN lenHD := by
  intro x M c fs M' e
  unfold lenHD at e
  (repeat' split at e) <;> first
    | (cases e; done)
    | exact q_len _ _ _ _ _ e
theorem o_lenH : OpNR X (.builtin "len") lenHD := by
  intro ρ M H xs vs Q Rl dv h
  unfold lenHD at h
  split at h
  · rename_i ks ds
    split at h
    · rename_i hl
      obtain ⟨v, rfl, d⟩ := dens_one dv
      obtain ⟨a, kvs, rfl, hH, e1, ek, hd⟩ := den_dct.mp d
      have hH := hH.rd
      have ln : ks.length = kvs.length := by rw [← ek, List.length_map]
      exact ⟨_, cr_lenDict, a, kvs, rfl, hH, by rw [← ln]; exact here Rl h (den_int.mpr rfl)⟩
    · exact h.elim
  · rename_i l
    split at h
    · rename_i kvs hm
      obtain ⟨v, rfl, d⟩ := dens_one dv
      obtain ⟨p0, u, rfl, hl, ho⟩ := den_ref.mp d
      obtain ⟨b, kvs2, h1, h2, h3⟩ := Rl.obj l _ hm
      rw [hl] at h1
      cases h1
      have eb := ho b rfl
      subst eb
      have ln : kvs.length = kvs2.length := by
        have := congrArg List.length (denP_split h3).1
        simpa using this.symm
      exact ⟨_, cr_lenDict, b, kvs2, rfl, .inl h2, by rw [← ln]; exact here Rl h (den_int.mpr rfl)⟩
    · exact o_len ρ M H _ vs Q Rl dv h
  · exact o_len ρ M H _ vs Q Rl dv h
end
end Mi

end

section
/-! Mi, part 62: a frame that keeps the cell it is given first. -/
namespace Mi
open PySem PySem.Spec PyProof.Rows L2
/-- one cell is kept, the other lists are out of sight -/
noncomputable def Rho.keep (ρ : Rho) (H : Hp) (a : Addr) : Rho := ⟨[some a], ρ.h ++ (lists ρ H).filter fun b => decide (b ≠ a)⟩
section
variable {K : PySem.W.Frag} {ρ ρ1 : Rho} {M M1 : MH} {H H1 : Hp} {a : Addr} {l : Nat}
theorem keep_hid {b : Addr} : b ∈ (ρ.keep H a).h ↔ b ∈ ρ.h ∨ (b ∈ lists ρ H ∧ b ≠ a) := by
  show b ∈ ρ.h ++ (lists ρ H).filter (fun b => decide (b ≠ a)) ↔ _
  rw [List.mem_append, List.mem_filter, decide_eq_true_iff]
theorem keep_c {b : Addr} : some b ∈ (ρ.keep H a).c ↔ b = a := by
  show some b ∈ [some a] ↔ _
  rw [List.mem_singleton]
  exact ⟨fun e => Option.some.inj e, fun e => by rw [e]⟩
theorem ls_inK (ha : some a ∈ ρ.c) {b : Addr} {zs : List V} (h : LsV K ρ H b zs) : LsV K (ρ.keep H a) H b zs := by
  rcases h with ⟨h, n, m⟩ | h
  · refine .inl ⟨h, fun z => ?_, fun z => ?_⟩
    · rw [keep_c] at z
      exact n (z ▸ ha)
    · rcases keep_hid.mp z with z | z
      · exact m z
      · exact n (lists_mem.mp z.1).1
  · exact .inr h
theorem lk_inK (ha : some a ∈ ρ.c) {b : Addr} {kvs : List (Key × V)} (_ : Lk H b kvs) (n : some b ∉ ρ.c) : some b ∉ (ρ.keep H a).c := fun z => by
  rw [keep_c] at z
  exact n (z ▸ ha)
theorem Rel.keepR (R : Rel K ρ M H) (hl : ρ.c[l]? = some (some a)) {xs : List D} {ys : List V} (ea : H a = some (.lst ys)) (d : Dens K ρ H xs ys) (cx : clns true xs = true) : Rel K (ρ.keep H a) [.lst xs] H where
  len := rfl
  hid := fun b m => by
    rcases keep_hid.mp m with m | m
    · obtain ⟨n, zs, e⟩ := R.hid b m
      refine ⟨fun z => ?_, zs, e⟩
      rw [keep_c] at z
      exact n (z ▸ mem_of_get hl)
    · exact ⟨fun z => m.2 (keep_c.mp z), (lists_mem.mp m.1).2⟩
  inj := fun i j b h1 h2 => by
    have h1 : ([some a] : List (Option Addr))[i]? = some (some b) := h1
    have h2 : ([some a] : List (Option Addr))[j]? = some (some b) := h2
    have g1 := (List.getElem?_eq_some_iff.mp h1).1
    have g2 := (List.getElem?_eq_some_iff.mp h2).1
    rw [List.length_singleton] at g1 g2
    omega
  obj := fun j o h => by
    have g := (List.getElem?_eq_some_iff.mp h).1
    rw [List.length_singleton] at g
    have j0 : j = 0 := by omega
    subst j0
    cases h
    exact ⟨a, ys, rfl, ea, Dens.to2 (fun _ _ => ls_inK (mem_of_get hl)) (fun _ _ => lk_inK (mem_of_get hl)) _ _ cx d⟩
theorem keptK (S : Stp (ρ.keep H a) H ρ1 H1) {b : Addr} {o : HO} (n : b ≠ a) (h : H b = some o) : H1 b = some o := S.keep b o h fun z => n (keep_c.mp z)
theorem stp_keep (S : Stp (ρ.keep H a) H ρ1 H1) (ha : some a ∈ ρ.c) : Stp ρ H ρ H1 := ⟨fun _ _ h => .inl h, fun _ h => .inl h, fun b o h n => keptK S (fun z => n (z ▸ ha)) h, rfl⟩
theorem ls_outK (R : Rel K ρ M H) (S : Stp (ρ.keep H a) H ρ1 H1) (h0 : some a ∈ ρ1.c) {b : Addr} {zs : List V} (h : LsV K ρ1 H1 b zs) : LsV K ρ H1 b zs := by
  rcases h with ⟨h, n, m⟩ | h
  · have nb : b ≠ a := fun z => n (z ▸ h0)
    have m : ¬ (b ∈ ρ.h ∨ (b ∈ lists ρ H ∧ b ≠ a)) := by
      have e : ρ1.h = (ρ.keep H a).h := S.hid
      rw [e] at m
      exact fun z => m (keep_hid.mpr z)
    rw [not_or] at m
    refine .inl ⟨h, fun z => ?_, m.1⟩
    rcases R.kind z with ⟨ys, e⟩ | ⟨ks, e⟩ | ⟨C, dx, gs, e⟩
    · exact m.2 ⟨lists_mem.mpr ⟨z, ys, e⟩, nb⟩
    · have e1 := keptK S nb e
      rcases h with h | ⟨o, h⟩ <;> (rw [e1] at h; cases h)
    · have e1 := keptK S nb e
      rcases h with h | ⟨o, h⟩ <;> (rw [e1] at h; cases h)
  · exact .inr h
theorem lk_outK (R : Rel K ρ M H) (S : Stp (ρ.keep H a) H ρ1 H1) {ys : List V} (ea : H1 a = some (.lst ys)) {b : Addr} {kvs : List (Key × V)} (h : Lk H1 b kvs) : some b ∉ ρ.c := fun z => by
  obtain ⟨o, h⟩ := h
  have nb : b ≠ a := fun q => by subst q; rw [ea] at h; cases h
  rcases R.kind z with ⟨us, e⟩ | ⟨ks, e⟩ | ⟨C, dx, gs, e⟩ <;> (have e1 := keptK S nb e; rw [e1] at h; cases h)
theorem Rel.outK (R : Rel K ρ M H) (S : Stp (ρ.keep H a) H ρ1 H1) (hl : ρ.c[l]? = some (some a)) {xs : List D} {ys : List V} (ea : H1 a = some (.lst ys)) (d : Dens K ρ H1 xs ys) : Rel K ρ (M.set l (.lst xs)) H1 where
  len := by rw [List.length_set]; exact R.len
  hid := fun b m => by
    obtain ⟨n, zs, e⟩ := R.hid b m
    exact ⟨n, zs, keptK S (fun z => n (z ▸ mem_of_get hl)) e⟩
  inj := R.inj
  obj := fun j o q => by
    have S2 := stp_keep S (mem_of_get hl)
    by_cases hj : j = l
    · subst hj
      have hlt : j < M.length := by
        have := (List.getElem?_eq_some_iff.mp q).1
        rw [List.length_set] at this
        exact this
      rw [List.getElem?_set_self hlt] at q
      cases q
      exact ⟨a, ys, hl, ea, d⟩
    · rw [List.getElem?_set_ne (fun z => hj z.symm)] at q
      have x := R.obj j o q
      have far : ∀ b, ρ.c[j]? = some (some b) → b ≠ a := fun b h z => hj (R.inj j l a (z ▸ h) hl)
      cases o with
      | lst ds =>
        obtain ⟨b, zs, h1, h2, h3⟩ := x
        exact ⟨b, zs, h1, keptK S (far b h1) h2, Dens.step R S2 _ _ h3⟩
      | dct kvs =>
        obtain ⟨b, zs, h1, h2, h3⟩ := x
        exact ⟨b, zs, h1, keptK S (far b h1) h2, DenP.step R S2 h3⟩
      | ins C fs =>
        obtain ⟨b, Ca, dx, gs, h1, cn, h2, h3⟩ := x
        exact ⟨b, Ca, dx, gs, h1, cn, keptK S (far b h1) h2, DenP.step R S2 h3⟩
      | gone => exact x
/-- a cell that came within is one more -/
theorem add_outK (R : Rel K ρ M H) (S : Stp (ρ.keep H a) H ρ1 H1) (ha : some a ∈ ρ.c) (h0 : some a ∈ ρ1.c) {ys : List V} (ea : H1 a = some (.lst ys)) {k : Nat} {b : Addr} (hk : ρ1.c[k]? = some (some b)) (nb : b ≠ a) : Stp ρ H (ρ.add b) H1 ∧ some b ∉ ρ.c ∧ H b = none ∧
    (∀ (x : Addr) (xs : List V), LsV K ρ1 H1 x xs → LsV K (ρ.add b) H1 x xs) ∧ (∀ (x : Addr) (kvs : List (Key × V)), Lk H1 x kvs → some x ∉ ρ1.c → some x ∉ (ρ.add b).c) := by
  have hn : H b = none := by
    rcases S.new b (mem_of_get hk) with z | z
    · exact absurd (keep_c.mp z) nb
    · exact z
  have na : some b ∉ ρ.c := R.fresh hn
  refine ⟨⟨fun j o h => .inl (get_front h), fun x m => ?_, fun x o h n => keptK S (fun z => n (z ▸ ha)) h, rfl⟩, na, hn, fun x xs h => ?_, fun x kvs h n m => ?_⟩
  · rcases List.mem_append.mp m with m | m
    · exact .inl m
    · have e : x = b := Option.some.inj (List.mem_singleton.mp m)
      rw [e]
      exact .inr hn
  · have o := ls_outK R S h0 h
    rcases h with ⟨h, n, m⟩ | h
    · rcases o with ⟨o1, o2, o3⟩ | o
      · refine .inl ⟨o1, fun z => ?_, o3⟩
        rcases List.mem_append.mp z with z | z
        · exact o2 z
        · have e : x = b := Option.some.inj (List.mem_singleton.mp z)
          rw [e] at n
          exact n (mem_of_get hk)
      · exact .inr o
    · exact .inr h
  · rcases List.mem_append.mp m with m | m
    · exact lk_outK R S ea h m
    · have e : x = b := Option.some.inj (List.mem_singleton.mp m)
      rw [e] at n
      exact n (mem_of_get hk)
theorem Rel.cellK (R : Rel K ρ M H) (S : Stp (ρ.keep H a) H ρ1 H1) (hl : ρ.c[l]? = some (some a)) (h0 : some a ∈ ρ1.c) {xs : List D} {ys : List V} (ea : H1 a = some (.lst ys)) {k : Nat} {b : Addr} {mo : MO} (hk : ρ1.c[k]? = some (some b)) (nb : b ≠ a) (d : Dens K (ρ.add b) H1 xs ys) (new : ObjD K (ρ.add b) H1 M.length mo) : Rel K (ρ.add b) (M.set l (.lst xs) ++ [mo]) H1 := by
  obtain ⟨S2, na, hn, _, _⟩ := add_outK R S (mem_of_get hl) h0 ea hk nb
  refine ⟨?_, fun x m => ?_, fun i j x h1 h2 => ?_, fun j u e => ?_⟩
  · show (ρ.c ++ [some b]).length = _
    rw [List.length_append, List.length_append, List.length_set, R.len]; rfl
  · obtain ⟨n, zs, e⟩ := R.hid x m
    refine ⟨fun z => ?_, zs, keptK S (fun z => n (z ▸ mem_of_get hl)) e⟩
    rcases List.mem_append.mp z with z | z
    · exact n z
    · have e2 : x = b := Option.some.inj (List.mem_singleton.mp z)
      subst e2
      rw [hn] at e
      cases e
  · have h1 : (ρ.c ++ [some b])[i]? = some (some x) := h1
    have h2 : (ρ.c ++ [some b])[j]? = some (some x) := h2
    have side : ∀ k : Nat, (ρ.c ++ [some b])[k]? = some (some x) → ρ.c[k]? = some (some x) ∨ (k = ρ.c.length ∧ x = b) := fun k h => by
      by_cases hk : k < ρ.c.length
      · rw [List.getElem?_append_left hk] at h
        exact .inl h
      · have hk2 := (List.getElem?_eq_some_iff.mp h).1
        rw [List.length_append] at hk2
        have hk3 : k = ρ.c.length := by
          have : [some b].length = 1 := rfl
          omega
        subst hk3
        rw [get_last] at h
        cases h
        exact .inr ⟨rfl, rfl⟩
    rcases side i h1 with q | ⟨q, e⟩ <;> rcases side j h2 with r | ⟨r, f⟩
    · exact R.inj i j x q r
    · subst f; exact absurd (mem_of_get q) na
    · subst e; exact absurd (mem_of_get r) na
    · rw [q, r]
  · have ln : (M.set l (.lst xs)).length = M.length := List.length_set
    by_cases hj : j < M.length
    · rw [List.getElem?_append_left (by rw [ln]; exact hj)] at e
      by_cases hjl : j = l
      · subst hjl
        rw [List.getElem?_set_self hj] at e
        cases e
        exact ⟨a, ys, get_front hl, ea, d⟩
      · rw [List.getElem?_set_ne (fun z => hjl z.symm)] at e
        have x := R.obj j u e
        have far : ∀ c, ρ.c[j]? = some (some c) → c ≠ a := fun c h z => hjl (R.inj j l a (z ▸ h) hl)
        cases u with
        | lst ds =>
          obtain ⟨c, zs, h1, h2, h3⟩ := x
          exact ⟨c, zs, get_front h1, keptK S (far c h1) h2, Dens.step R S2 _ _ h3⟩
        | dct kvs =>
          obtain ⟨c, zs, h1, h2, h3⟩ := x
          exact ⟨c, zs, get_front h1, keptK S (far c h1) h2, DenP.step R S2 h3⟩
        | ins C fs =>
          obtain ⟨c, Ca, dx, gs, h1, cn, h2, h3⟩ := x
          exact ⟨c, Ca, dx, gs, get_front h1, cn, keptK S (far c h1) h2, DenP.step R S2 h3⟩
        | gone => exact get_front x
    · have hj2 := (List.getElem?_eq_some_iff.mp e).1
      rw [List.length_append, ln] at hj2
      have hj3 : j = (M.set l (.lst xs)).length := by
        have : [mo].length = 1 := rfl
        rw [ln]
        omega
      subst hj3
      rw [get_last] at e
      cases e
      rw [ln]
      exact new
end
/-- what it told, and what the kept cell came to -/
def tellK (l : Nat) (M : MH) : R D → R D
  | .ok d M1 => match (M1[(0 : Nat)]? : Option MO) with
    | some (.lst xs) => if clns true xs = true then (match d with
      | .ref k => if k = 0 then .err else (match M1[k]? with
        | some (.lst ys) => if clns true ys = true then .ok (.ref M.length) (M.set l (.lst xs) ++ [.lst ys]) else .err
        | some (.dct kvs) => if clns true (kvs.map (·.2)) = true then .ok (.ref M.length) (M.set l (.lst xs) ++ [.dct kvs]) else .err
        | _ => .err)
      | d => if cln true d = true then .ok d (M.set l (.lst xs)) else .err) else .err
    | _ => .err
  | .exc _ _ _ => .err
  | .err => .err
/-- told a cell first: reckoned with this one alone; else with none -/
def frK (m : MF) : MF := fun (ds : List D) (M : MH) => match ds with
  | .ref l :: rest => if clns true rest = true then (match (M[l]? : Option MO) with
    | some (MO.lst xs) => if clns true xs = true then tellK l M (m (D.ref 0 :: rest) [MO.lst xs]) else R.err
    | _ => .err) else .err
  | ds => frX m ds M
theorem sp_frK {K : PySem.W.Frag} {n : Nat} {m : MF} {vs : List V} {H : Hp} {Q : VK} {E : XK} (h : spM K n (frK m) vs H Q E) : spM K n m vs H Q E := by
  obtain ⟨hlen, ρ, M, ds, R, dd, ok⟩ := h
  unfold frK at ok
  split at ok
  rotate_left
  · exact sp_frX ⟨hlen, ρ, M, _, R, dd, ok⟩
  rename_i l rest
  split at ok
  rotate_left
  · exact ok.elim
  rename_i cr
  split at ok
  rotate_left
  · exact ok.elim
  rename_i xs hm
  split at ok
  rotate_left
  · exact ok.elim
  rename_i cx
  obtain ⟨a, ys, hl, ea, d0⟩ := R.obj l _ hm
  have ha := mem_of_get hl
  have Rk := R.keepR hl ea d0 cx
  obtain ⟨v0, vr, rfl, dv0, dvr⟩ := dens_cons.mp dd
  obtain ⟨a', o', rfl, hl', ho'⟩ := den_ref.mp dv0
  rw [hl] at hl'
  cases hl'
  have ea' := ho' a rfl
  subst ea'
  refine ⟨hlen, ρ.keep H a, [.lst xs], .ref 0 :: rest, Rk, dens_cons.mpr ⟨_, _, rfl, den_ref.mpr ⟨a, some a, rfl, rfl, fun b e => (Option.some.inj e).symm⟩, Dens.to2 (fun _ _ => ls_inK ha) (fun _ _ => lk_inK ha) _ _ cr dvr⟩, ?_⟩
  cases e : m (.ref 0 :: rest) [.lst xs] with
  | err => rw [e] at ok; exact ok
  | exc cc fs M1 => rw [e] at ok; exact ok.elim
  | ok d M1 =>
    rw [e] at ok
    unfold tellK at ok
    simp only at ok
    split at ok
    rotate_left
    · exact ok.elim
    rename_i xs2 hm2
    split at ok
    rotate_left
    · exact ok.elim
    rename_i cx2
    -- what became of the kept cell
    have kept : ∀ {ρ1 : Rho} {H1 : Hp}, Stp (ρ.keep H a) H ρ1 H1 → Rel K ρ1 M1 H1 → ∃ ys2, ρ1.c[0]? = some (some a) ∧ H1 a = some (.lst ys2) ∧ Dens K ρ1 H1 xs2 ys2 := by
      intro ρ1 H1 S R1
      obtain ⟨b, ys2, g1, g2, g3⟩ := R1.obj 0 _ hm2
      have b0 : b = a := by
        rcases S.pre 0 (some a) rfl with q | q
        · rw [g1] at q
          exact Option.some.inj (Option.some.inj q)
        · rw [g1] at q
          cases q
      subst b0
      exact ⟨ys2, g1, g2, g3⟩
    by_cases hr : ∃ k, d = .ref k
    · obtain ⟨k, rfl⟩ := hr
      simp only at ok
      split at ok
      · exact ok.elim
      rename_i k0
      split at ok
      · rename_i zs hz
        split at ok
        rotate_left
        · exact ok.elim
        rename_i cz
        intro ρ1 H1 v S R1 dv
        obtain ⟨ys2, q0, q1, q2⟩ := kept S R1
        obtain ⟨c, o, rfl, h1, h2⟩ := den_ref.mp dv
        obtain ⟨b, us, g1, g2, g3⟩ := R1.obj k _ hz
        rw [h1] at g1; cases g1
        have eb := h2 b rfl; subst eb
        have nb : b ≠ a := fun z => k0 (R1.inj k 0 a (z ▸ h1) q0)
        obtain ⟨S2, na, hn, f, g⟩ := add_outK R S ha (mem_of_get q0) q1 h1 nb
        have last : (ρ.add b).c[M.length]? = some (some b) := R.lastAt
        exact ok _ H1 _ S2 (R.cellK S hl (mem_of_get q0) q1 h1 nb (Dens.to2 f g _ _ cx2 q2) ⟨b, us, last, g2, Dens.to2 f g _ _ cz g3⟩) (den_ref.mpr ⟨b, some b, rfl, last, fun _ z => Option.some.inj z.symm⟩)
      · rename_i kvs hz
        split at ok
        rotate_left
        · exact ok.elim
        rename_i cz
        intro ρ1 H1 v S R1 dv
        obtain ⟨ys2, q0, q1, q2⟩ := kept S R1
        obtain ⟨c, o, rfl, h1, h2⟩ := den_ref.mp dv
        obtain ⟨b, us, g1, g2, g3⟩ := R1.obj k _ hz
        rw [h1] at g1; cases g1
        have eb := h2 b rfl; subst eb
        have nb : b ≠ a := fun z => k0 (R1.inj k 0 a (z ▸ h1) q0)
        obtain ⟨S2, na, hn, f, g⟩ := add_outK R S ha (mem_of_get q0) q1 h1 nb
        have last : (ρ.add b).c[M.length]? = some (some b) := R.lastAt
        exact ok _ H1 _ S2 (R.cellK S hl (mem_of_get q0) q1 h1 nb (Dens.to2 f g _ _ cx2 q2) ⟨b, us, last, g2, denP_to2 f g cz g3⟩) (den_ref.mpr ⟨b, some b, rfl, last, fun _ z => Option.some.inj z.symm⟩)
      · exact ok.elim
    · have e2 : (match d with
          | .ref k => if k = 0 then (Mi.R.err : Mi.R D) else (match M1[k]? with
            | some (.lst ys) => if clns true ys = true then .ok (.ref M.length) (M.set l (MO.lst xs2) ++ [MO.lst ys]) else .err
            | some (.dct kvs) => if clns true (kvs.map (fun p : Key × D => p.2)) = true then .ok (.ref M.length) (M.set l (MO.lst xs2) ++ [MO.dct kvs]) else .err
            | _ => .err)
          | d => if cln true d = true then .ok d (M.set l (MO.lst xs2)) else .err) = if cln true d = true then .ok d (M.set l (MO.lst xs2)) else .err := by
        cases d <;> first
          | rfl
          | exact (hr ⟨_, rfl⟩).elim
      rw [e2] at ok
      split at ok
      rotate_left
      · exact ok.elim
      rename_i cd
      intro ρ1 H1 v S R1 dv
      obtain ⟨ys2, q0, q1, q2⟩ := kept S R1
      have f : ∀ (x : Addr) (us : List V), LsV K ρ1 H1 x us → LsV K ρ H1 x us := fun _ _ => ls_outK R S (mem_of_get q0)
      have g : ∀ (x : Addr) (kvs : List (Key × V)), Lk H1 x kvs → some x ∉ ρ1.c → some x ∉ ρ.c := fun _ _ h _ => lk_outK R S q1 h
      exact ok ρ H1 v (stp_keep S ha) (R.outK S hl q1 (Dens.to2 f g _ _ cx2 q2)) (Den.to2 f g _ _ cd dv)
theorem fm_frK {P : Program} {w : World} {K : PySem.W.Frag} {mg : Str → Option Value} {base : Heap} {k : Nat} {x : Str} {st : Stmt} {dvs : List V} {kws : List (Str × V)} {ps : List Str} {m : MF} (F : Fm P w K mg base k x st dvs kws ps m) : Fm P w K mg base k x st dvs kws ps (frK m) :=
  let ⟨f, fd, a, b, c⟩ := F.ex
  ⟨f, fd, a, b, ⟨fun vs H Q E h => h.1, fun A outer s H args us vs Q E r g e bt r2 h => c.go A outer s H args us vs Q E r g e bt r2 (sp_frK h)⟩⟩
end Mi

end

section
/-! Mi, part 63: walks over a list that is a cell, as it stands at each turn. -/
namespace Mi
open PySem PySem.Spec PyProof.Rows L2
def cellAt (m : ME) : En → MH → R Nat := fun env M => (m env M).bind fun d M1 => match d with
  | .ref l => match M1[l]? with
    | some (.lst _) => .ok l M1
    | _ => .err
  | _ => .err
/-- a walk over the list at an address, as it stands; what it gives -/
structure CW (K : PySem.W.Frag) (Jf : Addr → It) (mk : Nat → D → D) : Prop where
  go : ∀ {a : Addr} {i : Nat} {H : Hp} {xs : List V} {v : V}, SqL K H a xs → xs[i]? = some v → (Jf a).go i H
  stop : ∀ {a : Addr} {i : Nat} {H : Hp} {xs : List V}, SqL K H a xs → xs.length ≤ i → (Jf a).stop i H
  yld : ∀ {a : Addr} {i : Nat} {ρ : Rho} {M : MH} {H H2 : Hp} {xs : List V} {v y : V} {x : D}, Rel K ρ M H → SqL K H a xs → xs[i]? = some v → Den K ρ H x v → (Jf a).yld i H y H2 → Rel K ρ M H2 ∧ Stp ρ H ρ H2 ∧ Den K ρ H2 (mk i x) y
theorem cw_lst {K : PySem.W.Frag} : CW K (Itl K) (fun _ x => x) where
  go := fun h e => ⟨_, _, h, e⟩
  stop := fun h e => ⟨_, h, e⟩
  yld := fun {a i ρ M H H2 xs v y x} R h e d q => by
    obtain ⟨rfl, q2⟩ := q
    have := q2 xs h
    rw [e] at this
    cases this
    exact ⟨R, Stp.refl (K := K) (M := M), d⟩
theorem cw_enum {K : PySem.W.Frag} : CW K (Ite K) (fun i x => .tup [.int (i : Nat), x]) where
  go := fun h e => ⟨_, _, h, e⟩
  stop := fun h e => ⟨_, h, e⟩
  yld := fun {a i ρ M H H2 xs v y x} R h e d q => by
    obtain ⟨T, z, rfl, hn, rfl, hz⟩ := q
    have := hz xs h
    rw [e] at this
    cases this
    exact ⟨R.alloc hn, Stp.alloc hn, den_newT R hn (dens_cons.mpr ⟨_, _, rfl, den_int.mpr rfl, dens_cons.mpr ⟨_, _, rfl, d, dens_nil.mpr rfl⟩⟩)⟩
abbrev DnW (K : PySem.W.Frag) (Jf : Addr → It) : Rho → Hp → Nat → It → Prop := fun ρ _ l J => ∃ a, ρ.c[l]? = some (some a) ∧ J = Jf a
def lenC (l : Nat) (M : MH) : Nat := match M[l]? with
  | some (.lst ds) => ds.length
  | _ => 0
/-- the list as it stands, from the place i on; so many turns at most -/
def forGoC (mk : Nat → D → D) (l : Nat) (g : D → En → Option En) (b : MS) : Nat → Nat → MS
  | 0, _, _, _ => .err
  | n + 1, i, env, M => match M[l]? with
    | some (.lst ds) => match ds[i]? with
      | none => .nx env M
      | some x => match g (mk i x) env with
        | none => .err
        | some env' => match b env' M with
          | .nx e2 M2 => forGoC mk l g b n (i + 1) e2 M2
          | .ct e2 M2 => forGoC mk l g b n (i + 1) e2 M2
          | .bk e2 M2 => .nx e2 M2
          | .ret d M2 => .ret d M2
          | .exc c fs e2 M2 => .exc c fs e2 M2
          | .err => .err
    | _ => .err
def cForC (mk : Nat → D → D) (mc : En → MH → R Nat) (g : D → En → Option En) (b : MS) : MS := fun env M => andS (mc env M) env fun l M1 => forGoC mk l g b (lenC l M1 + 1) 0 env M1
section
variable {X : Cx} {W : WX}
def SIC (X : Cx) (W : WX) (Jf : Addr → It) (tg e : Expr) (m : En → MH → R Nat) : Prop := PI X tg e (tm X.K (DnW X.K Jf) W m)
theorem i_cell {tg e : Expr} {m : ME} (h : SE X W e m) : SIC X W (Itl X.K) tg e (cellAt m) := by
  refine ⟨fun pins s σ H Rr I q => ?_⟩
  obtain ⟨ρ, M, env, Rl, E, q⟩ := q
  refine (pi_list h).run pins s σ H Rr I ?_
  unfold cellAt at q
  refine ⟨ρ, M, env, Rl, E, q.bind fun d M1 ρ1 H1 v e S R1 dv q1 => ?_⟩
  cases d with
  | ref l =>
    simp only at q1
    split at q1
    · rename_i ds hm
      obtain ⟨a, ys, rfl, hs, hd⟩ := cell_lst R1 dv hm
      obtain ⟨a2, o, e2, hl, ho⟩ := den_ref.mp dv
      cases e2
      obtain ⟨b, zs, g1, g2, g3⟩ := R1.obj l _ hm
      rw [hl] at g1
      cases g1
      have eb := ho b rfl
      subst eb
      exact ⟨b, rfl, ⟨ys, SqL.of hs⟩, q1 ρ1 H1 _ (Stp.refl (K := X.K) (M := M1)) R1 ⟨b, hl, rfl⟩⟩
    · exact q1.elim
  | _ => exact q1.elim
theorem c_forC {Jf : Addr → It} {mk : Nat → D → D} (cw : CW X.K Jf mk) {tg iter : Expr} {body : List Stmt} {pos : Pos} {mc : En → MH → R Nat} {js : List Nat} {g : D → En → Option En} {b : MS} (hp : PassesOwn (model X.prog X.w) X.A X.env X.xe) (hc : X.calm = true) (hi : SIC X W Jf tg iter mc) (hg : SG X tg js g) (hb : SB X W body b)
    (hs : ∀ x, foldedSetIterable iter X.env x = pure x := by intro _; rfl) : SS X W (.For tg iter body [] pos) (cForC mk mc g b) := by
  refine ps_imp (ps_for hp hc hi (gW_of hg) hb hs) fun D σ H q => ?_
  obtain ⟨ρ, M, env, Rl, E, q⟩ := q
  refine andS_tm Rl E q fun l M1 ρ1 H1 J R1 E1 wk q1 => ?_
  obtain ⟨a, hl, rfl⟩ := wk
  refine ⟨fun i n σ' H' => ∃ ρ' M' env', Rel X.K ρ' M' H' ∧ Stp ρ1 H1 ρ' H' ∧ EnR X.K ρ' H' env' σ' ∧ OkS X.K ρ' H' W D (forGoC mk l g b n i env' M'), ⟨lenC l M1 + 1, ρ1, M1, env, R1, Stp.refl (K := X.K) (M := M1), E1, q1⟩, ?_⟩
  rintro i n σ' H' ⟨ρ', M', env', R', S', E', ok'⟩
  cases n with
  | zero => exact ok'.elim
  | succ n =>
    unfold forGoC at ok'
    split at ok'
    rotate_left
    · exact ok'.elim
    rename_i ds hm
    obtain ⟨a', xs, h1, h2, h3⟩ := R'.obj l _ hm
    have ea : a' = a := by
      rcases S'.pre l (some a) hl with q | q
      · rw [h1] at q
        exact Option.some.inj (Option.some.inj q)
      · rw [h1] at q
        cases q
    subst ea
    have sq : SqL X.K H' a' xs := SqL.of h2
    split at ok'
    · rename_i hx
      exact .inl ⟨cw.stop sq (by rw [← h3.length]; exact List.getElem?_eq_none_iff.mp hx), ok' ρ' H' σ' (Stp.refl (K := X.K) (M := M')) R' E'⟩
    · rename_i x hx
      obtain ⟨v, v1, v2⟩ := h3.get hx
      refine .inr ⟨cw.go sq v1, fun σ2 H2 => ∃ ρ2 M2 env2, Rel X.K ρ2 M2 H2 ∧ Stp ρ1 H1 ρ2 H2 ∧ EnR X.K ρ2 H2 env2 σ2 ∧ OkS X.K ρ2 H2 W D (forGoC mk l g b n (i + 1) env2 M2), fun σ2 H2 p => ⟨n, Nat.lt_succ_self n, p⟩, fun y H2 yl => ?_⟩
      obtain ⟨R2, S2, dx⟩ := cw.yld R' sq v1 v2 yl
      have okc := ok'.step S2
      cases hgx : g (mk i x) env' with
      | none => rw [hgx] at okc; exact okc.elim
      | some env2 =>
        rw [hgx] at okc
        simp only at okc
        refine ⟨ρ', M', mk i x, env', env2, R2, E'.step R' S2, dx, hgx, fun σ2 E2 _ _ => ⟨ρ', M', env2, R2, E2, ?_⟩⟩
        cases hb1 : b env2 M' with
        | nx e3 M3 =>
          rw [hb1] at okc
          exact fun ρ3 H3 σ3 S3 R3 E3 => ⟨ρ3, M3, e3, R3, (S'.trans S2).trans S3, E3, okc.step S3⟩
        | ct e3 M3 =>
          rw [hb1] at okc
          exact fun ρ3 H3 σ3 S3 R3 E3 => ⟨ρ3, M3, e3, R3, (S'.trans S2).trans S3, E3, okc.step S3⟩
        | bk e3 M3 => rw [hb1] at okc; exact okc
        | ret d M3 => rw [hb1] at okc; exact okc
        | exc c fs e3 M3 => rw [hb1] at okc; exact okc
        | err => rw [hb1] at okc; exact okc
/-- over enumerate(cell) -/
def cellOf (ma : MA) : En → MH → R Nat := fun env M => (ma env M).bind fun ds M1 => match ds with
  | [.ref l] => match M1[l]? with
    | some (.lst _) => .ok l M1
    | _ => .err
  | _ => .err
theorem i_enumC {e : Expr} {ma : MA} {p pos tpos : Pos} {elts : List Expr} {kk : Nat} (hm : X.mg "enumerate" = none) (ha : SA X W [e] ma) (hg : Gl X "enumerate" := by rfl) (hs : starEach [e] X.env = (false, eval e X.env) :: starEach [] X.env := by rfl) :
    SIC X W (Ite X.K) (.Tuple elts kk tpos) (.Call (.Name "enumerate" p) [e] [] pos) (cellOf ma) := by
  refine ⟨fun pins s σ H Rr I h => ?_⟩
  refine Call_ (ld_blt I hg hm boot_enumerate (PyProof.Rows.callWith_type1 (thn (ha.run pos pins s σ H (fun vs H1 => ∃ a xs, vs = [.ref a] ∧ SqL X.K H1 a xs ∧ Rr (Ite X.K a) H1) I ?_) fun us s1 ⟨vs, H1, I1, r1, q1⟩ => ?_) hs rfl))
  · obtain ⟨ρ, M, env, Rl, E, h⟩ := h
    refine ⟨ρ, M, env, Rl, E, h.bind fun ds M1 ρ1 H1 vs _ S R1 dv q1 => ?_⟩
    split at q1
    · rename_i l _
      split at q1
      · rename_i zs hm
        obtain ⟨v, rfl, d⟩ := dens_one dv
        obtain ⟨a, ys, rfl, hs, hd⟩ := cell_lst R1 d hm
        obtain ⟨a2, o, e2, hl, ho⟩ := den_ref.mp d
        cases e2
        obtain ⟨b, us, g1, g2, g3⟩ := R1.obj l _ hm
        rw [hl] at g1
        cases g1
        have eb := ho b rfl
        subst eb
        exact ⟨b, ys, rfl, SqL.of hs, q1 ρ1 H1 _ (Stp.refl (K := X.K) (M := M1)) R1 ⟨b, hl, rfl⟩⟩
      · exact q1.elim
    · exact q1.elim
  obtain ⟨a, xs, ex, hq, q⟩ := q1
  subst ex
  rw [Vals.ref1 r1]
  obtain ⟨its, rv, p', hz⟩ := I1.list hq
  refine call_enumerate_list p'.isList fun h' he hit hsz hk => wpAny_pyIter_enum he ?_
  have I2 : L2.Inv X pins σ H1 { s1 with heap := h' } := I1.kept (t' := s1.toks) hk
  refine ⟨s1.heap.objs.size + 1, [s1.heap.objs.size + 1, s1.heap.objs.size], _, _, H1, rfl, I2, turn_enum a (s1.heap.objs.size + 1) s1.heap.objs.size, ⟨⟨.none, he⟩, hit, Nat.succ_ne_self _⟩, fun b hb => ?_, q⟩
  have e' : b = s1.heap.objs.size + 1 ∨ b = s1.heap.objs.size := by simpa using hb
  have hle : s1.heap.objs.size ≤ b := by rcases e' with z | z <;> (rw [z]; omega)
  exact I1.fpOk hle (I1.hok.fresh hle)
end
end Mi

end

section
/-! Mi, part 64: `in` a tuple of anything; repr of a thing that is no list and no tuple. -/
namespace PySem.SeqAt
open AutoSeq1 (wpAny_loadPart')
open MeetsSeq MeetsSeq2 MeetsSeq3 SeqRoads2
section
variable {prog : Program} {w : World}
/-- x in xs, a tuple: its items' answers by their places -/
theorem tup_has (l : Addr) (items : Array Value) (n : Nat) (dd : Option Addr) (sl : Array (Option Value)) (x : Value) (e : Nat → Bool) :
    MeetsIn prog w (Builtin.«tuple.__contains__» ⟨[.ref l, x], []⟩)
      (fun A R s => s.heap.get? l = some { cls := .type "tuple", dict := dd, data := .seq items n, slots := sl } ∧ (∀ j (h1 : j < items.size), EqIn prog w A.in1 s items[j] x (e j)) ∧ R (.ok (.ret (.bool ((List.range items.size).any e)))) s) :=
  .of_wp fun A R s h => by
    obtain ⟨hp, g, d, tk, os⟩ := s; obtain ⟨hl, he, h⟩ := h
    wp_walk using wpAny_loadPart' hl, wpAny_forIn_array _ (fun rest b s' => b.1 = none ∧ s' = ⟨hp, g, d, tk, os⟩ ∧ ∃ i, rest = items.toList.drop i ∧ R (.ok (.ret (.bool (((List.range items.size).drop i).any e)))) ⟨hp, g, d, tk, os⟩) _
    case turn =>
      rintro y rest b s' ⟨hb, rfl, i, hz, hR⟩
      have m1 : i < items.toList.length := by
        rcases Nat.lt_or_ge i items.toList.length with h' | h'
        · exact h'
        · rw [List.drop_of_length_le h'] at hz; cases hz
      have hm : i < items.size := by simpa using m1
      rw [List.drop_eq_getElem_cons m1] at hz
      injection hz with hy hrest
      have hy : y = items[i] := by simpa using hy
      subst hy
      have z3 : (List.range items.size).drop i = i :: (List.range items.size).drop (i + 1) := by simp [List.drop_eq_getElem_cons, hm]
      rw [z3, List.any_cons] at hR
      refine wpAny_bind (he i hm _ _ ?_)
      cases hy : e i with
      | true =>
        rw [hy] at hR
        wp_walk
        exact ⟨_, rfl, by simpa using hR⟩
      | false =>
        rw [hy] at hR
        wp_walk
        exact ⟨rfl, rfl, i + 1, hrest, by simpa using hR⟩
    case fin =>
      rintro ⟨b1, b2⟩ s' ⟨hb, rfl, i, hz, hR⟩
      simp only at hb
      subst hb
      have hge : items.size ≤ i := by
        rcases Nat.lt_or_ge i items.toList.length with h' | h'
        · rw [List.drop_eq_getElem_cons h'] at hz; cases hz
        · simpa using h'
      rw [List.drop_of_length_le (by simpa using hge)] at hR
      wp_walk
      exact ⟨_, rfl, by simpa using hR⟩
    case h =>
      exact ⟨rfl, rfl, 0, rfl, by simpa using h⟩
variable {A : Around} {E : Value → Shared → Prop} {s : Shared}
theorem in_tupleI {l : Addr} {items : Array Value} {x : Value} {Q : Value → Shared → Prop} (e : Nat → Bool) (hl : s.heap.IsTuple l items) (he : ∀ j (h1 : j < items.size), EqIn prog w A.in1 s items[j] x (e j))
    (h : Q (.bool ((List.range items.size).any e)) s) : wpAny (model prog w) A (compareOp .In x (.ref l)) Q E s := by
  obtain ⟨⟨cls, dd, data, sl⟩, ho, hc, n, hd⟩ := id hl; simp only at hc hd; subst hc hd
  show wpAny _ A (do return .bool (← contains (.ref l) x)) Q E s
  refine wpAny_bind (wpAny_contains_slot ⟨_, ho, rfl⟩ F.slot_tuple_contains (wpAny_mono (call_meetsIn (Q := fun v s' => ∃ b, v = .bool b ∧ Q (.bool b) s') F.slot_tuple_contains ⟨_, ho, rfl⟩ F.entry_tuple_contains (F.args_tuple_contains_2 _ _) (tup_has l items n dd sl x e) ⟨ho, he, _, rfl, h⟩) (fun v s' hv => ?_) fun _ _ e => e))
  obtain ⟨b, rfl, q⟩ := hv; exact wpAny_truthy_bool (wpAny_pure q)
theorem notIn_tupleI {l : Addr} {items : Array Value} {x : Value} {Q : Value → Shared → Prop} (e : Nat → Bool) (hl : s.heap.IsTuple l items) (he : ∀ j (h1 : j < items.size), EqIn prog w A.in1 s items[j] x (e j))
    (h : Q (.bool (!(List.range items.size).any e)) s) : wpAny (model prog w) A (compareOp .NotIn x (.ref l)) Q E s := by
  obtain ⟨⟨cls, dd, data, sl⟩, ho, hc, n, hd⟩ := id hl; simp only at hc hd; subst hc hd
  show wpAny _ A (do return .bool (!(← contains (.ref l) x))) Q E s
  refine wpAny_bind (wpAny_contains_slot ⟨_, ho, rfl⟩ F.slot_tuple_contains (wpAny_mono (call_meetsIn (Q := fun v s' => ∃ b, v = .bool b ∧ Q (.bool (!b)) s') F.slot_tuple_contains ⟨_, ho, rfl⟩ F.entry_tuple_contains (F.args_tuple_contains_2 _ _) (tup_has l items n dd sl x e) ⟨ho, he, _, rfl, h⟩) (fun v s' hv => ?_) fun _ _ e => e))
  obtain ⟨b, rfl, q⟩ := hv; exact wpAny_truthy_bool (wpAny_pure q)
end
end PySem.SeqAt
namespace Mi
open PySem PySem.Spec PyProof.Rows L2
open PySem.W PySem.SeqAt
section
variable {X : Cx}
def rInU (K : PySem.W.Frag) (neg : Bool) : R2 := fun v w H Q => ∃ ρ M x ds a xs b, Rel K ρ M H ∧ Den K ρ H x v ∧ w = .ref a ∧ SqT K H a xs ∧ Dens K ρ H ds xs ∧ anyH M x ds = some b ∧ Q (.bl (b != neg)) H
theorem inU_items {pins : List (Addr × Obj)} {σ : L2.St} {H : Hp} {s : Shared} {ρ : Rho} {M : MH} (hu : X.A.units + 100 < cLine) (I : Inv X pins σ H s) (Rl : Rel X.K ρ M H) {x : D} {v : V} {v' : Value} {ds : List D} {a : Addr} {xs : List V} {b : Bool} (hx : Den X.K ρ H x v) (rx : RelV v v') (h1 : SqT X.K H a xs) (h2 : Dens X.K ρ H ds xs) (h : anyH M x ds = some b) :
    ∃ (its : Array Value) (e : Nat → Bool), s.heap.IsTuple a its ∧ (∀ j (h1 : j < its.size), EqIn X.prog X.w X.A.in1 s its[j] v' (e j)) ∧ (List.range its.size).any e = b := by
  obtain ⟨its, rv, p⟩ := shV_tupO I h1
  obtain ⟨k1, k2⟩ := anyH_any h
  have l1 : its.toArray.size = ds.length := by rw [dens_len h2, rv.length]; simp
  refine ⟨its.toArray, _, p, fun j hj => ?_, by rw [l1]; exact k1⟩
  obtain ⟨v0, z1, z2⟩ := vals_at rv hj
  have jx : j < ds.length := by omega
  obtain ⟨v1, m1, m2⟩ := dens_get h2 (List.getElem?_eq_getElem jx)
  rw [z1] at m1; cases m1
  obtain ⟨c, hc⟩ := k2 ds[j] (List.getElem_mem jx)
  simp only [List.getElem?_eq_getElem jx, hc, Option.getD_some]
  exact (eqH_tree I Rl 60 _ _ _ _ _ _ _ m2 hx z2 rx hc).at X.A.in1 (by show X.A.units + 1 + 60 < cLine; omega)
theorem op_inU (hu : X.A.units + 100 < cLine) : OpR X (compareOp .In) (rInU X.K false) := by
  intro pins s σ H v w v' w' Q I rx ry ⟨ρ, M, x, ds, a, xs, b, Rl, hx, hw, h1, h2, h, q⟩
  subst hw
  cases ry
  obtain ⟨its, e, p, he, hb⟩ := inU_items hu I Rl hx rx h1 h2 h
  refine in_tupleI e p he ?_
  rw [hb]
  exact ⟨.bl b, H, I, rfl, by simpa using q⟩
theorem op_notInU (hu : X.A.units + 100 < cLine) : OpR X (compareOp .NotIn) (rInU X.K true) := by
  intro pins s σ H v w v' w' Q I rx ry ⟨ρ, M, x, ds, a, xs, b, Rl, hx, hw, h1, h2, h, q⟩
  subst hw
  cases ry
  obtain ⟨its, e, p, he, hb⟩ := inU_items hu I Rl hx rx h1 h2 h
  refine notIn_tupleI e p he ?_
  rw [hb]
  exact ⟨.bl (!b), H, I, rfl, by simpa using q⟩
/-- as inHD; in tuples of anything, too -/
def inAD (neg : Bool) : Op2 := fun x y M => match inHD neg x y M with
  | .ok d M1 => .ok d M1
  | _ => match y with
    | .tup ds => match anyH M x ds with
      | some b => .ok (.bl (b != neg)) M
      | none => .err
    | _ => .err
theorem q_inA {neg : Bool} : Quiet2 (inAD neg) := by
  intro x y M c fs M' e
  unfold inAD at e
  (repeat' split at e) <;> cases e
theorem o_inAX (c : Cf X) (neg : Bool) (f : Value → Value → Sem Value) (h0 : Op2R X f (inHD neg)) (hT : OpR X f (rInU X.K neg)) : Op2R X f (inAD neg) := by
  intro ρ M H x y v w Q Rl dx dy h
  unfold inAD at h
  split at h
  · rename_i d M1 e
    exact h0 ρ M H x y v w Q Rl dx dy (by rw [e]; exact h)
  · split at h
    · rename_i ds _
      obtain ⟨a, xs, hw, h1, h2⟩ := den_tup.mp dy
      split at h
      · rename_i b eb
        exact ⟨_, hT, ρ, M, x, ds, a, xs, b, Rl, dx, hw, h1, h2, eb, here Rl h (den_bl.mpr rfl)⟩
      · exact h.elim
    · exact h.elim
theorem o_inA (c : Cf X) : Op2R X (compareOp .In) (inAD false) := o_inAX c false _ (o_inH c) (op_inU c.hu)
theorem o_notInA (c : Cf X) : Op2R X (compareOp .NotIn) (inAD true) := o_inAX c true _ (o_notInH c) (op_notInU c.hu)
end
/-! ### repr -/
/-- repr of anything plain -/
def reprAD : OpN := fun xs M => match xs with
  | [.non] => .ok (.str "None") M
  | [.bl b] => .ok (.str (if b then "True" else "False")) M
  | [.int i] => if i.natAbs.log2 < 1920 then .ok (.str (toString i)) M else .err
  | [.str x] => if (reprText x).length ≤ lim then .ok (.str (reprText x)) M else .err
  | _ => reprD xs M
theorem q_reprA : QuietN reprAD := by
  intro x M c fs M' e
  unfold reprAD at e
  split at e
  · cases e
  · cases e
  · split at e <;> cases e
  · split at e <;> cases e
  · exact q_repr x M c fs M' e
section
variable {X : Cx}
theorem cr_reprN : CallR X (.builtin "repr") (fun xs H Q => xs = [.non] ∧ Q (.str "None") H) := by
  intro pins s σ H xs us Q I r h
  obtain ⟨rfl, q⟩ := h
  obtain ⟨u, rfl, ru⟩ : ∃ u, us = [u] ∧ RelV .non u := by cases r with | cons a b => cases b; exact ⟨_, rfl, a⟩
  obtain rfl : u = .none := ru
  exact PySem.P.repr_of_none ⟨.str _, H, I.tok _, ⟨_, rfl⟩, q⟩
theorem cr_reprB : CallR X (.builtin "repr") (fun xs H Q => ∃ b, xs = [.bl b] ∧ Q (.str (if b then "True" else "False")) H) := by
  intro pins s σ H xs us Q I r h
  obtain ⟨b, rfl, q⟩ := h
  obtain ⟨u, rfl, ru⟩ : ∃ u, us = [u] ∧ RelV (.bl b) u := by cases r with | cons a b => cases b; exact ⟨_, rfl, a⟩
  obtain rfl : u = .bool b := ru
  exact PySem.P.repr_of_bool ⟨.str _, H, I.tok _, ⟨_, rfl⟩, q⟩
theorem cr_reprS : CallR X (.builtin "repr") (fun xs H Q => ∃ x : Str, xs = [.str x] ∧ (reprText x).length ≤ sizeLine ∧ Q (.str (reprText x)) H) := by
  intro pins s σ H xs us Q I r h
  obtain ⟨x, rfl, z, q⟩ := h
  obtain ⟨u, rfl, ru⟩ : ∃ u, us = [u] ∧ RelV (.str x) u := by cases r with | cons a b => cases b; exact ⟨_, rfl, a⟩
  obtain ⟨t, rfl⟩ := ru
  exact PySem.P.repr_of_str ⟨.str _, H, I.tok _, ⟨_, rfl⟩, q⟩ z
theorem cr_reprI : CallR X (.builtin "repr") (fun xs H Q => ∃ i : Int, xs = [.int i] ∧ i.natAbs.log2 < 1920 ∧ Q (.str (toString i)) H) := by
  intro pins s σ H xs us Q I r h
  obtain ⟨i, rfl, z, q⟩ := h
  obtain ⟨u, rfl, ru⟩ : ∃ u, us = [u] ∧ RelV (.int i) u := by cases r with | cons a b => cases b; exact ⟨_, rfl, a⟩
  obtain ⟨t, rfl⟩ := ru
  exact PySem.P.repr_of_int z ⟨.str _, H, I.tok _, ⟨_, rfl⟩, q⟩
theorem o_reprA (c : Cf X) : OpNR X (.builtin "repr") reprAD := by
  intro ρ M H xs vs Q Rl dv h
  unfold reprAD at h
  split at h
  · obtain ⟨v, rfl, d1⟩ := dens_one dv
    rw [den_non] at d1; subst d1
    exact ⟨_, cr_reprN, rfl, here Rl h (den_str.mpr rfl)⟩
  · obtain ⟨v, rfl, d1⟩ := dens_one dv
    rw [den_bl] at d1; subst d1
    exact ⟨_, cr_reprB, _, rfl, here Rl h (den_str.mpr rfl)⟩
  · obtain ⟨v, rfl, d1⟩ := dens_one dv
    rw [den_int] at d1; subst d1
    split at h
    · rename_i z
      exact ⟨_, cr_reprI, _, rfl, z, here Rl h (den_str.mpr rfl)⟩
    · exact h.elim
  · obtain ⟨v, rfl, d1⟩ := dens_one dv
    rw [den_str] at d1; subst d1
    split at h
    · rename_i z
      exact ⟨_, cr_reprS, _, rfl, lim_le z, here Rl h (den_str.mpr rfl)⟩
    · exact h.elim
  · exact o_repr c ρ M H xs vs Q Rl dv h
end
end Mi

end

section
/-! Mi, part 65: a tuple any number of times. -/
namespace Mi
open PySem PySem.Spec PyProof.Rows L2
open AutoSeq1 (wpAny_loadPart')
theorem tup_same (l : Addr) (items : Array Value) (n : Nat) (dd : Option Addr) (sl : Array (Option Value)) (x : Int) (u : Tok) (c0 : (decide (x < -(2 ^ 63)) || decide (x ≥ 2 ^ 63)) = false) (c1 : (items.isEmpty || x == 1) = true) :
    Meets (Builtin.«tuple.__mul__» ⟨[.ref l, .int x u], []⟩) (fun _ R s => s.heap.get? l = some { cls := .type "tuple", dict := dd, data := .seq items n, slots := sl } ∧ R (.ok (.ret (Value.ref l))) s) :=
  .of_wp fun prog w A R s h => by
    obtain ⟨hp, g, d, tk, os⟩ := s
    obtain ⟨hl, h⟩ := h
    have f1 := AutoSeq1.idx_int
    wp_walk using wpAny_loadPart' hl
    refine wpAny_ite_false (decide_eq_false (by rw [c0]; exact Bool.false_ne_true)) ?_
    wp_walk using wpAny_loadPart' hl
    exact ⟨_, rfl, h⟩
theorem tup_none (l : Addr) (items : Array Value) (n : Nat) (dd : Option Addr) (sl : Array (Option Value)) (x : Int) (u : Tok) (c0 : (decide (x < -(2 ^ 63)) || decide (x ≥ 2 ^ 63)) = false) (c1 : (items.isEmpty || x == 1) = false) (c2 : (decide (x ≤ 0) || items.isEmpty) = true) :
    Meets (Builtin.«tuple.__mul__» ⟨[.ref l, .int x u], []⟩) (fun _ R s => s.heap.get? l = some { cls := .type "tuple", dict := dd, data := .seq items n, slots := sl } ∧
      R (.ok (.ret (Value.ref s.heap.objs.size))) { s with heap := s.heap.push { cls := Value.type "tuple", data := Data.seq #[] }, toks := s.toks }) :=
  .of_wp fun prog w A R s h => by
    obtain ⟨hp, g, d, tk, os⟩ := s
    obtain ⟨hl, h⟩ := h
    have f1 := AutoSeq1.idx_int
    wp_walk using wpAny_loadPart' hl
    refine wpAny_ite_false (decide_eq_false (by rw [c0]; exact Bool.false_ne_true)) ?_
    wp_walk using wpAny_loadPart' hl
    exact ⟨_, rfl, h⟩
def rRepU (K : PySem.W.Frag) : R2 := fun x y H Q => ∃ l k xs, x = .ref l ∧ y = .int k ∧ SqT K H l xs ∧ -1000 ≤ k ∧ k ≤ 1000 ∧ (k ≤ 1 ∨ xs = []) ∧ (k = 1 ∨ xs = [] → Q (.ref l) H) ∧ (¬ (k = 1 ∨ xs = []) → ∀ p, H p = none → Q (.ref p) (upd H p (.tup [])))
section
variable {X : Cx}
theorem op_repU : OpR X (binaryOp .Mult) (rRepU X.K) := by
  intro pins s σ H x y v u Q I rx ry h
  obtain ⟨l, k, xs, rfl, rfl, hT, h1, h2, h3, q1, q2⟩ := h
  cases rx
  obtain ⟨t, rfl⟩ := ry
  obtain ⟨its, r, ⟨⟨cls, dd, data, sl⟩, ho, hc, n, hd⟩, hs⟩ := I.tuple hT
  simp only at hc hd
  subst hc hd
  have hle : its.length = xs.length := r.length.symm
  have em : its.toArray.isEmpty = decide (xs = []) := by
    cases its with
    | nil =>
      have : xs = [] := List.eq_nil_of_length_eq_zero hle.symm
      subst this; rfl
    | cons a b =>
      have : xs ≠ [] := fun e => by subst e; simp at hle
      simp [this]
  have c0 : (decide (k < -(2 ^ 63)) || decide (k ≥ 2 ^ 63)) = false := by
    rw [decide_eq_false (by omega), decide_eq_false (by omega)] <;> rfl
  by_cases z : k = 1 ∨ xs = []
  · have c1 : (its.toArray.isEmpty || k == 1) = true := by
      rw [em]
      rcases z with z | z <;> simp [z]
    exact wpAny_binaryOp_repeat_ref (T := "tuple") (U := "int") (by decide) ⟨_, ho, rfl⟩ (fun s' => typeIs_int s' k t) noFill_tuple_mul F.fills_int_mul F.slot_int_rmul repeat_tuple F.slot_int_index.lookup
      (call_meets F.slot_int_rmul (typeIs_int s k t) F.entry_int_rmul (F.args_int_rmul_2 _ _) (int_rmul_tuple k t l its.toArray n dd sl)
        ⟨ho, rfl, ⟨_, ho, rfl⟩, call_meets F.slot_tuple_mul ⟨_, ho, rfl⟩ F.entry_tuple_mul (F.args_tuple_mul_2 _ _) (tup_same l its.toArray n dd sl k t c0 c1) ⟨ho, ⟨.ref l, H, I, rfl, q1 z⟩⟩⟩)
  · have c1 : (its.toArray.isEmpty || k == 1) = false := by
      rw [em]
      rw [not_or] at z
      simp [z.1, z.2]
    have c2 : (decide (k ≤ 0) || its.toArray.isEmpty) = true := by
      rw [not_or] at z
      have h4 : k ≤ 1 := h3.resolve_right z.2
      rw [decide_eq_true (by omega)]; rfl
    refine wpAny_binaryOp_repeat_ref (T := "tuple") (U := "int") (by decide) ⟨_, ho, rfl⟩ (fun s' => typeIs_int s' k t) noFill_tuple_mul F.fills_int_mul F.slot_int_rmul repeat_tuple F.slot_int_index.lookup
      (call_meets F.slot_int_rmul (typeIs_int s k t) F.entry_int_rmul (F.args_int_rmul_2 _ _) (int_rmul_tuple k t l its.toArray n dd sl)
        ⟨ho, rfl, ⟨_, ho, rfl⟩, call_meets F.slot_tuple_mul ⟨_, ho, rfl⟩ F.entry_tuple_mul (F.args_tuple_mul_2 _ _) (tup_none l its.toArray n dd sl k t c0 c1 c2) ⟨ho, ?_⟩⟩)
    refine ⟨.ref s.heap.objs.size, _, I.laid (t' := s.toks) (o := .tup []) (fun b ob q => Heap.get?_push_of_some _ q) (Nat.le_refl _) ?_, rfl, q2 z _ (I.hok.fresh (Nat.le_refl _))⟩
    exact ⟨Nat.zero_le _, [], .nil, IsTup.new _ _⟩
/-- as mulHD; a tuple any number of times -/
def mulAD : Op2 := fun x y M => match x, y with
  | .tup ds, .int k => if -1000 ≤ k ∧ k ≤ 1000 ∧ ds.length ≤ 1000 then .ok (.tup (List.replicate k.toNat ds).flatten) M else .err
  | x, y => mulHD x y M
theorem q_mulA : Quiet2 mulAD := by
  intro x y M c fs M' e
  unfold mulAD at e
  split at e
  · split at e <;> cases e
  · exact q_mulH _ _ _ _ _ _ e
theorem o_mulA : Op2R X (binaryOp .Mult) mulAD := by
  intro ρ M H x y v w Q Rl dx dy h
  unfold mulAD at h
  split at h
  · rename_i ds k
    obtain ⟨a, xs, rfl, hs, hd⟩ := den_tup.mp dx
    rw [den_int] at dy
    subst dy
    split at h
    · rename_i z
      obtain ⟨z1, z2, z3⟩ := z
      by_cases e : k ≤ 1 ∨ xs = []
      · refine ⟨_, op_repU, a, k, xs, rfl, rfl, hs, z1, z2, e, fun q => ?_, fun q => ?_⟩
        · have e2 : (List.replicate k.toNat ds).flatten = ds := by
            rcases q with q | q
            · subst q; simp
            · subst q
              have : ds = [] := List.eq_nil_of_length_eq_zero hd.length
              subst this; simp
          rw [e2] at h
          exact here Rl h (den_tup.mpr ⟨a, xs, rfl, hs, hd⟩)
        · rw [not_or] at q
          have k1 : k ≤ 1 := e.resolve_right q.2
          have e2 : (List.replicate k.toNat ds).flatten = [] := by
            have : k.toNat = 0 := by omega
            rw [this]; rfl
          rw [e2] at h
          exact newT Rl h (dens_nil.mpr rfl)
      · rw [not_or] at e
        have hne : xs ≠ [] := e.2
        exact ⟨_, op_repT, a, k, xs, rfl, rfl, hs, hne, by omega, z2, by rw [← hd.length]; exact z3, newT Rl h (hd.rep _)⟩
    · exact h.elim
  · exact o_mulH ρ M H x y v w Q Rl dx dy h
end
end Mi

end

section
/-! Mi, part 66: a, b = x, y. -/
namespace Mi
open PySem PySem.Spec PyProof.Rows L2
def cPar (i j : Nat) (ma : MA) : MS := fun env M => andS (ma env M) env fun ds M1 => match ds with
  | [d, e] => .nx ((env.set i (some d)).set j (some e)) M1
  | _ => .err
section
variable {X : Cx} {W : WX}
theorem c_par {i j : Nat} {x y : Str} {a b : Expr} {px py pt pos : Pos} {kt k2 pt2} {ma : MA} (hc : X.calm = true) (hN : X.N.Nodup) (ha : SA X W [a, b] ma) (hi : X.N[i]? = some x := by rfl) (hj : X.N[j]? = some y := by rfl) (hij : i ≠ j := by decide)
    (hx : X.env.scope.names.lookup x = some .local := by rfl) (hy : X.env.scope.names.lookup y = some .local := by rfl)
    (hw : swappedStores [.Tuple [.Name x px, .Name y py] kt pt] (.Tuple [a, b] k2 pt2) X.env = pure (some [x, y]) := by rfl)
    (hs : swapsWithSole [.Tuple [.Name x px, .Name y py] kt pt] (.Tuple [a, b] k2 pt2) pos.line X.env = pure false := by rfl) :
    SS X W (.Assign [.Tuple [.Name x px, .Name y py] kt pt] (.Tuple [a, b] k2 pt2) pos) (cPar i j ma) := by
  refine ps_imp (ps_par hc hN hi hj hij hx hy ha hw hs) fun D σ H q => ?_
  obtain ⟨ρ, M, env, Rl, E, q⟩ := q
  refine andS_tm Rl E q fun ds M1 ρ1 H1 vs R1 E1 dv q1 => ?_
  split at q1
  · rename_i d e
    obtain ⟨v, r, rfl, h1, h2⟩ := dens_cons.mp dv
    obtain ⟨w, r2, rfl, h3, h4⟩ := dens_cons.mp h2
    rw [dens_nil] at h4
    subst h4
    exact ⟨v, w, rfl, q1 ρ1 H1 _ (Stp.refl (K := X.K) (M := M1)) R1 ((E1.set i h1).set j h3)⟩
  · exact q1.elim
end
theorem sPar {i j : Nat} {ma : MA} {rest : MS} {env : En} {M M1 : MH} {d e : D} (h : ma env M = .ok [d, e] M1) : bCons (cPar i j ma) rest env M = rest ((env.set i (some d)).set j (some e)) M1 := by
  unfold bCons cPar
  rw [h]
  unfold andS
  simp only [RS.bind_nx]
end Mi

end

section
/-! Mi, part 67: repr through cells and dicts, as deep as sixty. -/
namespace Mi
open PySem PySem.Spec PyProof.Rows L2
open PySem.W PySem.SeqAt
def keyPy : Key → PyData
  | .inl i => .int i
  | .inr x => .str x
def optL {α β : Type} (f : α → Option β) : List α → Option (List β)
  | [] => some []
  | x :: r => match f x, optL f r with
    | some y, some ys => some (y :: ys)
    | _, _ => none
def optK (f : D → Option PyData) : List (Key × D) → Option (List (PyData × PyData))
  | [] => some []
  | (k, d) :: r => match f d, optK f r with
    | some y, some ys => some ((keyPy k, y) :: ys)
    | _, _ => none
/-- what is shown of it -/
def rdD (M : MH) : Nat → D → Option PyData
  | 0, _ => none
  | n + 1, d => match shOf M d with
    | some (.sc c) => some (py c)
    | some (.tup ds) => (optL (rdD M n) ds).map .tuple
    | some (.lst ds) => (optL (rdD M n) ds).map .list
    | some (.dct kvs) => (optK (rdD M n) kvs).map .dict
    | none => none
/-- read, and what repr says of it -/
def Shw (prog : Program) (w : World) (h : Heap) (v : Value) (d : PyData) : Prop :=
  ∃ as bs, Reads h v d as ∧ ReadAtMost h d.depth bs ∧ (d.showable = true → d.shown.length ≤ sizeLine → ReprK prog w bs h d.depth v d.shown)
def ShwAll (prog : Program) (w : World) (h : Heap) (vs : List Value) (ds : List PyData) : Prop :=
  ∃ as bs, ReadsAll h vs ds as ∧ ReadAtMost h (PyData.depthAll ds) bs ∧ (PyData.showableAll ds = true → (∀ t ∈ PyData.shownAll ds, t.length ≤ sizeLine) → ReprAllK prog w bs h (PyData.depthAll ds) vs (PyData.shownAll ds))
section
variable {prog : Program} {w : World} {h : Heap}
theorem shw_nil : ShwAll prog w h [] [] := ⟨[], [], .nil, (fun _ h => nomatch h), fun _ _ => by simp only [PyData.shownAll]; exact .nil⟩
theorem shw_cons {v : Value} {d : PyData} {vs : List Value} {ds : List PyData} (a : Shw prog w h v d) (b : ShwAll prog w h vs ds) : ShwAll prog w h (v :: vs) (d :: ds) := by
  obtain ⟨a1, b1, r1, m1, k1⟩ := a
  obtain ⟨a2, b2, r2, m2, k2⟩ := b
  refine ⟨_, b1 ++ b2, .cons r1 r2, fun b hm => ?_, fun hs hz => ?_⟩
  · simp only [PyData.depthAll]
    rcases List.mem_append.mp hm with hm | hm
    · obtain ⟨d', as', r', hd'⟩ := m1 b hm
      exact ⟨d', as', r', Nat.le_trans hd' (Nat.le_max_left _ _)⟩
    · obtain ⟨d', as', r', hd'⟩ := m2 b hm
      exact ⟨d', as', r', Nat.le_trans hd' (Nat.le_max_right _ _)⟩
  · have hs' : d.showable = true ∧ PyData.showableAll ds = true := by simpa [PyData.showableAll] using hs
    have q1 := k1 hs'.1 (hz _ (by simp only [PyData.shownAll]; exact List.mem_cons_self ..))
    have q2 := k2 hs'.2 fun t ht => hz t (by simp only [PyData.shownAll]; exact List.mem_cons_of_mem _ ht)
    simp only [PyData.depthAll, PyData.shownAll]
    exact .cons ((q1.more fun b hb => List.mem_append_left _ hb).level_le (Nat.le_max_left _ _)) (q2.more_le (fun b hb => List.mem_append_right _ hb) (Nat.le_max_right _ _))
theorem shw_list {a : Addr} {vs : List Value} {xs : List PyData} (p : h.IsList a vs.toArray) (q : ShwAll prog w h vs xs) : Shw prog w h (.ref a) (.list xs) := by
  obtain ⟨o, ho, hc, n, hd⟩ := p
  obtain ⟨as, bs, r, m, k⟩ := q
  have r0 : Reads h (.ref a) (.list xs) _ := .list ho hc hd (by simpa using r)
  have na : a ∉ bs := not_mem_of_deeper r0 (by simp only [PyData.depth]; omega) m
  refine ⟨_, a :: bs, r0, ReadAtMost.cons r0 (by simp only [PyData.depth]; omega) m, fun hs hz => ?_⟩
  have hz' : (listText (PyData.shownAll xs)).length ≤ sizeLine := by simpa only [PyData.shown] using hz
  have hk := k (by simpa [PyData.showable] using hs) fun t ht => Nat.le_trans (listText_mem_le ht) hz'
  simp only [PyData.depth, PyData.shown]
  cases vs with
  | nil =>
    cases r
    simp only [PyData.shownAll, listText_nil]
    exact ReprK.listEmpty ho hc hd
  | cons x l => exact ReprK.list ho hc hd na (by simpa using hk.length_eq) (fun i y e => hk.item i y (by simpa using e))
theorem shw_tuple {a : Addr} {vs : List Value} {xs : List PyData} (p : h.IsTuple a vs.toArray) (q : ShwAll prog w h vs xs) : Shw prog w h (.ref a) (.tuple xs) := by
  obtain ⟨o, ho, hc, n, hd⟩ := p
  obtain ⟨as, bs, r, m, k⟩ := q
  have r0 : Reads h (.ref a) (.tuple xs) _ := .tuple ho hc hd (by simpa using r)
  have na : a ∉ bs := not_mem_of_deeper r0 (by simp only [PyData.depth]; omega) m
  refine ⟨_, a :: bs, r0, ReadAtMost.cons r0 (by simp only [PyData.depth]; omega) m, fun hs hz => ?_⟩
  have hz' : (tupleText (PyData.shownAll xs)).length ≤ sizeLine := by simpa only [PyData.shown] using hz
  have hk := k (by simpa [PyData.showable] using hs) fun t ht => Nat.le_trans (tupleText_mem_le ht) hz'
  simp only [PyData.depth, PyData.shown]
  exact ReprK.tuple ho hc hd na (by simpa using hk)
theorem shw_dict {a : Addr} {o : Obj} {es : Array DictEntry} {n : Nat} {kvs : List (PyData × PyData)} (sm : (a == sysModules) = false) (ho : h.get? a = some o) (hc : o.cls = .type "dict") (hd : o.data = .dict es n) (q1 : ShwAll prog w h (es.toList.map (·.key)) (kvs.map (·.1))) (q2 : ShwAll prog w h (es.toList.map (·.val)) (kvs.map (·.2))) : Shw prog w h (.ref a) (.dict kvs) := by
  obtain ⟨a1, b1, r1, m1, k1⟩ := q1
  obtain ⟨a2, b2, r2, m2, k2⟩ := q2
  have r0 : Reads h (.ref a) (.dict kvs) _ := .dict ho hc hd r1 r2
  have m0 : ReadAtMost h (PyData.depthKv kvs) (b1 ++ b2) := (m1.mono (PyData.depthAll_keys_le kvs)).append (m2.mono (PyData.depthAll_vals_le kvs))
  have na : a ∉ b1 ++ b2 := not_mem_of_deeper r0 (by simp only [PyData.depth]; omega) m0
  refine ⟨_, a :: (b1 ++ b2), r0, ReadAtMost.cons r0 (by simp only [PyData.depth]; omega) m0, fun hs hz => ?_⟩
  have hz' : (dictText (PyData.shownKv kvs)).length ≤ sizeLine := by simpa only [PyData.shown] using hz
  obtain ⟨hs1, hs2⟩ := PyData.showableKv_split kvs (by simpa [PyData.showable] using hs)
  have g1 := k1 hs1 fun t ht => let ⟨p, hp, hl⟩ := PyData.shownKv_key_le kvs t ht; Nat.le_trans hl (Nat.le_trans (dictText_mem_le hp) hz')
  have g2 := k2 hs2 fun t ht => let ⟨p, hp, hl⟩ := PyData.shownKv_val_le kvs t ht; Nat.le_trans hl (Nat.le_trans (dictText_mem_le hp) hz')
  simp only [PyData.depth, PyData.shown, PyData.shownKv_eq]
  exact ReprK.dict ho hc hd sm na (ReprEntriesK.of_two es.toList _ _
    (g1.more_le (fun b hb => List.mem_append_left _ hb) (PyData.depthAll_keys_le kvs)) (g2.more_le (fun b hb => List.mem_append_right _ hb) (PyData.depthAll_vals_le kvs)))
theorem shw_key {k : Key} {v : Value} (e : keyIs k v = true) : Shw prog w h v (keyPy k) := by
  rcases keyIs_shape e with ⟨i, t, rfl, rfl⟩ | ⟨x, t, rfl, rfl⟩
  · exact ⟨[], [], .int i t, (fun _ h => nomatch h), fun hs _ => by simp only [keyPy, PyData.shown]; exact .of_is (ReprIs.int t (by simpa [keyPy, PyData.showable] using hs)) _ _ _⟩
  · exact ⟨[], [], .str x t, (fun _ h => nomatch h), fun _ hz => by simp only [keyPy, PyData.shown]; exact .of_is (ReprIs.str x t (by simpa only [keyPy, PyData.shown] using hz)) _ _ _⟩
end
section
variable {X : Cx} {pins : List (Addr × Obj)} {σ : L2.St} {H : Hp} {s : Shared} {ρ : Rho} {M : MH}
theorem shw_lists {n : Nat} (ih : ∀ (d : D) (v : V) (v' : Value) (p : PyData), Den X.K ρ H d v → RelV v v' → rdD M n d = some p → Shw X.prog X.w s.heap v' p) :
    ∀ {ds : List D} {xs : List V} {its : List Value} {ps : List PyData}, Dens X.K ρ H ds xs → Vals xs its → optL (rdD M n) ds = some ps → ShwAll X.prog X.w s.heap its ps
  | [], xs, its, ps, h, rv, e => by
    rw [dens_nil] at h; subst h
    cases rv
    cases e
    exact shw_nil
  | d :: r, xs, its, ps, h, rv, e => by
    obtain ⟨v, t, rfl, h1, h2⟩ := dens_cons.mp h
    unfold optL at e
    split at e
    · rename_i y ys e1 e2
      cases e
      cases rv with
      | cons a b => exact shw_cons (ih d v _ y h1 a e1) (shw_lists ih h2 b e2)
    · cases e
theorem shw_pairs {n : Nat} (ih : ∀ (d : D) (v : V) (v' : Value) (p : PyData), Den X.K ρ H d v → RelV v v' → rdD M n d = some p → Shw X.prog X.w s.heap v' p) :
    ∀ {kvs : List (Key × D)} {ks : List (Key × V)} {vs : List (Key × Value)} {es : List DictEntry} {ps : List (PyData × PyData)}, DenP X.K ρ H kvs ks → KV ks vs → Pairs (mixKind X.prog X.w) es vs → optK (rdD M n) kvs = some ps →
      ShwAll X.prog X.w s.heap (es.map (·.key)) (ps.map (·.1)) ∧ ShwAll X.prog X.w s.heap (es.map (·.val)) (ps.map (·.2))
  | [], ks, vs, es, ps, h, kv, pr, e => by
    cases h
    cases kv
    cases pr
    cases e
    exact ⟨shw_nil, shw_nil⟩
  | (k, d) :: r, ks, vs, es, ps, h, kv, pr, e => by
    unfold optK at e
    split at e
    · rename_i y ys e1 e2
      cases e
      cases h with
      | cons a b =>
        cases kv with
        | cons c f =>
          cases pr with
          | cons p1 p2 p3 =>
            obtain ⟨i1, i2⟩ := shw_pairs ih b f p3 e2
            refine ⟨shw_cons ?_ i1, shw_cons ?_ i2⟩
            · have z := p1
              rw [mixKind_is, ← c.1, ← a.1] at z
              exact shw_key z
            · have z := ih d _ _ y a.2 c.2 e1
              rw [← p2] at z
              exact z
    · cases e
theorem shw_all (I : Inv X pins σ H s) (Rl : Rel X.K ρ M H) : ∀ (n : Nat) (d : D) (v : V) (v' : Value) (p : PyData), Den X.K ρ H d v → RelV v v' → rdD M n d = some p → Shw X.prog X.w s.heap v' p
  | 0, d, v, v', p, _, _, e => by cases e
  | n + 1, d, v, v', p, h, r, e => by
    have ih := shw_all I Rl n
    unfold rdD at e
    cases sh : shOf M d with
    | none => rw [sh] at e; cases e
    | some q =>
      have sv := shOf_v Rl h sh
      rw [sh] at e
      cases q with
      | sc c =>
        cases e
        obtain ⟨s1, s2⟩ := sv
        cases c with
        | non =>
          rw [den_non] at s2; subst s2
          obtain rfl : v' = .none := r
          exact ⟨[], [], .none, (fun _ h => nomatch h), fun _ _ => by simp only [py, PyData.shown]; exact .of_is ReprIs.none _ _ _⟩
        | bl b =>
          rw [den_bl] at s2; subst s2
          obtain rfl : v' = .bool b := r
          exact ⟨[], [], .bool b, (fun _ h => nomatch h), fun _ _ => by simp only [py, PyData.shown]; exact .of_is (ReprIs.bool b) _ _ _⟩
        | int i =>
          rw [den_int] at s2; subst s2
          obtain ⟨t, rfl⟩ := r
          exact ⟨[], [], .int i t, (fun _ h => nomatch h), fun hs _ => by simp only [py, PyData.shown]; exact .of_is (ReprIs.int t (by simpa [py, PyData.showable] using hs)) _ _ _⟩
        | str x =>
          rw [den_str] at s2; subst s2
          obtain ⟨t, rfl⟩ := r
          exact ⟨[], [], .str x t, (fun _ h => nomatch h), fun _ hz => by simp only [py, PyData.shown]; exact .of_is (ReprIs.str x t (by simpa only [py, PyData.shown] using hz)) _ _ _⟩
        | _ => cases s1
      | tup ds =>
        obtain ⟨a, xs, rfl, h1, h2⟩ := sv
        cases r
        obtain ⟨its, rv, pl⟩ := shV_tupO I h1
        obtain ⟨ps, e1, e2⟩ := Option.map_eq_some_iff.mp e
        subst e2
        exact shw_tuple pl (shw_lists ih h2 rv e1)
      | lst ds =>
        obtain ⟨a, xs, rfl, h1, h2⟩ := sv
        cases r
        obtain ⟨its, rv, pl⟩ := shV_lstO I h1
        obtain ⟨ps, e1, e2⟩ := Option.map_eq_some_iff.mp e
        subst e2
        exact shw_list pl (shw_lists ih h2 rv e1)
      | dct kvs =>
        obtain ⟨a, ks, rfl, h1, h2⟩ := sv
        cases r
        obtain ⟨sm, ⟨vs, kv, ⟨o, es, ep, ho, hx, hd, _, pr, _⟩⟩, _⟩ := shV_dctO I h1
        obtain ⟨ps, e1, e2⟩ := Option.map_eq_some_iff.mp e
        subst e2
        obtain ⟨q1, q2⟩ := shw_pairs ih h2 kv pr e1
        exact shw_dict sm ho hx.1 hd q1 q2
end
section
variable {prog : Program} {w : World} {h : Heap}
theorem shb_list {a : Addr} {vs : List Value} {xs : List PyData} (p : h.IsList a vs.toArray) (q : ShwAll prog w h vs xs) (hs : (PyData.list xs).showable = true) (hz : (PyData.list xs).shown.length ≤ sizeLine) : ShowsBy prog w h a (.list xs) "list" "list.__repr__" := by
  obtain ⟨o, ho, hc, n, hd⟩ := p
  obtain ⟨as, bs, r, m, k⟩ := q
  have r0 : Reads h (.ref a) (.list xs) _ := .list ho hc hd (by simpa using r)
  have na : a ∉ bs := not_mem_of_deeper r0 (by simp only [PyData.depth]; omega) m
  have hz' : (listText (PyData.shownAll xs)).length ≤ sizeLine := by simpa only [PyData.shown] using hz
  have hk := k (by simpa [PyData.showable] using hs) fun t ht => Nat.le_trans (listText_mem_le ht) hz'
  refine ⟨F.slot_list_repr.toG, F.slot_list_str, F.slot_list_format, fun s hk0 => ⟨o, hk0 _ _ ho, hc⟩, fun A E s Q hg hu hk0 hQ => ?_⟩
  simp only [PyData.depth] at hu
  simp only [PyData.shown] at hQ
  cases vs with
  | nil =>
    cases r
    simp only [PyData.shownAll, listText_nil] at hQ
    exact call_list_repr_empty ⟨o, hk0 _ _ ho, hc⟩ (hk0 _ _ ho) hd (hQ s.heap _ _ fun _ _ e => e)
  | cons x l => exact call_list_reprK ho hc hd na (by simpa using hk.length_eq) (fun i y e => hk.item i y (by simpa using e)) hg (fun b _ => Clear.nil b) hu hk0 hQ hz'
theorem shb_tuple {a : Addr} {vs : List Value} {xs : List PyData} (p : h.IsTuple a vs.toArray) (q : ShwAll prog w h vs xs) (hs : (PyData.tuple xs).showable = true) (hz : (PyData.tuple xs).shown.length ≤ sizeLine) : ShowsBy prog w h a (.tuple xs) "tuple" "tuple.__repr__" := by
  obtain ⟨o, ho, hc, n, hd⟩ := p
  obtain ⟨as, bs, r, m, k⟩ := q
  have r0 : Reads h (.ref a) (.tuple xs) _ := .tuple ho hc hd (by simpa using r)
  have na : a ∉ bs := not_mem_of_deeper r0 (by simp only [PyData.depth]; omega) m
  have hz' : (tupleText (PyData.shownAll xs)).length ≤ sizeLine := by simpa only [PyData.shown] using hz
  have hk := k (by simpa [PyData.showable] using hs) fun t ht => Nat.le_trans (tupleText_mem_le ht) hz'
  refine ⟨F.slot_tuple_repr, F.slot_tuple_str, F.slot_tuple_format, fun s hk0 => ⟨o, hk0 _ _ ho, hc⟩, fun A E s Q hg hu hk0 hQ => ?_⟩
  simp only [PyData.depth] at hu
  simp only [PyData.shown] at hQ
  exact call_tuple_reprK ho hc hd na (by simpa using hk) hg (fun b _ => Clear.nil b) hu hk0 hQ hz'
theorem shb_dict {a : Addr} {o : Obj} {es : Array DictEntry} {n : Nat} {kvs : List (PyData × PyData)} (sm : (a == sysModules) = false) (ho : h.get? a = some o) (hc : o.cls = .type "dict") (hd : o.data = .dict es n) (q1 : ShwAll prog w h (es.toList.map (·.key)) (kvs.map (·.1))) (q2 : ShwAll prog w h (es.toList.map (·.val)) (kvs.map (·.2)))
    (hs : (PyData.dict kvs).showable = true) (hz : (PyData.dict kvs).shown.length ≤ sizeLine) : ShowsBy prog w h a (.dict kvs) "dict" "dict.__repr__" := by
  obtain ⟨a1, b1, r1, m1, k1⟩ := q1
  obtain ⟨a2, b2, r2, m2, k2⟩ := q2
  have r0 : Reads h (.ref a) (.dict kvs) _ := .dict ho hc hd r1 r2
  have m0 : ReadAtMost h (PyData.depthKv kvs) (b1 ++ b2) := (m1.mono (PyData.depthAll_keys_le kvs)).append (m2.mono (PyData.depthAll_vals_le kvs))
  have na : a ∉ b1 ++ b2 := not_mem_of_deeper r0 (by simp only [PyData.depth]; omega) m0
  have hz' : (dictText (PyData.shownKv kvs)).length ≤ sizeLine := by simpa only [PyData.shown] using hz
  obtain ⟨hs1, hs2⟩ := PyData.showableKv_split kvs (by simpa [PyData.showable] using hs)
  have g1 := k1 hs1 fun t ht => let ⟨p, hp, hl⟩ := PyData.shownKv_key_le kvs t ht; Nat.le_trans hl (Nat.le_trans (dictText_mem_le hp) hz')
  have g2 := k2 hs2 fun t ht => let ⟨p, hp, hl⟩ := PyData.shownKv_val_le kvs t ht; Nat.le_trans hl (Nat.le_trans (dictText_mem_le hp) hz')
  refine ⟨F.slot_dict_repr, F.slot_dict_str, F.slot_dict_format, fun s hk0 => ⟨o, hk0 _ _ ho, hc⟩, fun A E s Q hg hu hk0 hQ => ?_⟩
  simp only [PyData.depth] at hu
  simp only [PyData.shown, PyData.shownKv_eq] at hQ
  exact call_dict_reprK ho hc hd sm na (ReprEntriesK.of_two es.toList _ _
    (g1.more_le (fun b hb => List.mem_append_left _ hb) (PyData.depthAll_keys_le kvs)) (g2.more_le (fun b hb => List.mem_append_right _ hb) (PyData.depthAll_vals_le kvs))) hg (fun b _ => Clear.nil b) hu hk0 hQ (by rw [← PyData.shownKv_eq]; exact hz')
end
/-- repr of anything -/
def reprHD : OpN := fun xs M => match xs with
  | [d] => match rdD M 60 d with
    | some p => if p.showable = true ∧ p.depth ≤ 60 ∧ p.shown.length ≤ lim then .ok (.str p.shown) M else .err
    | none => .err
  | _ => .err
section
variable {X : Cx}
def rRepr (X : Cx) : List V → Hp → VK → Prop := fun xs H Q => ∃ ρ M d v p, xs = [v] ∧ Rel X.K ρ M H ∧ Den X.K ρ H d v ∧ rdD M 60 d = some p ∧ p.showable = true ∧ p.depth ≤ 60 ∧ p.shown.length ≤ sizeLine ∧ Q (.str p.shown) H
theorem cr_reprH (c : Cf X) : CallR X (.builtin "repr") (rRepr X) := by
  intro pins s σ H xs us Q I r h
  obtain ⟨ρ, M, d, v, p, rfl, Rl, hd, e, hs, dp, hz, q⟩ := h
  obtain ⟨u, rfl, ru⟩ : ∃ u, us = [u] ∧ RelV v u := by cases r with | cons a b => cases b; exact ⟨_, rfl, a⟩
  have top : ∀ {a : Addr} {T idr : String}, u = .ref a → ShowsBy X.prog X.w s.heap a p T idr → wpAny (model X.prog X.w) X.A (call (.builtin "repr") [u]) (EP X pins σ Q) X.xe s := fun {a T idr} eu S => by
    subst eu
    have hu := c.hu
    exact call_repr_slot (by omega) (S.typeIs s fun _ _ e => e) S.slotRepr (S.call X.A.in1 X.xe s _ c.guards (by show X.A.units + 1 + p.depth < cLine; omega) (fun _ _ e => e) fun h' u tk hk => ⟨_, _, rfl, ⟨.str _, H, I.kept hk, ⟨_, rfl⟩, q⟩⟩)
  have ih := shw_all I Rl 59
  unfold rdD at e
  cases sh : shOf M d with
  | none => rw [sh] at e; cases e
  | some k =>
    have sv := shOf_v Rl hd sh
    rw [sh] at e
    cases k with
    | sc c0 =>
      cases e
      obtain ⟨s1, s2⟩ := sv
      cases c0 with
      | non =>
        rw [den_non] at s2; subst s2
        obtain rfl : u = .none := ru
        exact PySem.P.repr_of_none ⟨.str _, H, I.tok _, ⟨_, rfl⟩, q⟩
      | bl b =>
        rw [den_bl] at s2; subst s2
        obtain rfl : u = .bool b := ru
        exact PySem.P.repr_of_bool ⟨.str _, H, I.tok _, ⟨_, rfl⟩, q⟩
      | int i =>
        rw [den_int] at s2; subst s2
        obtain ⟨t, rfl⟩ := ru
        exact PySem.P.repr_of_int (of_decide_eq_true hs) ⟨.str _, H, I.tok _, ⟨_, rfl⟩, q⟩
      | str x =>
        rw [den_str] at s2; subst s2
        obtain ⟨t, rfl⟩ := ru
        exact PySem.P.repr_of_str ⟨.str _, H, I.tok _, ⟨_, rfl⟩, q⟩ hz
      | _ => cases s1
    | tup ds =>
      obtain ⟨a, xs, rfl, h1, h2⟩ := sv
      cases ru
      obtain ⟨its, rv, pl⟩ := shV_tupO I h1
      obtain ⟨ps, e1, e2⟩ := Option.map_eq_some_iff.mp e
      subst e2
      exact top rfl (shb_tuple pl (shw_lists ih h2 rv e1) hs hz)
    | lst ds =>
      obtain ⟨a, xs, rfl, h1, h2⟩ := sv
      cases ru
      obtain ⟨its, rv, pl⟩ := shV_lstO I h1
      obtain ⟨ps, e1, e2⟩ := Option.map_eq_some_iff.mp e
      subst e2
      exact top rfl (shb_list pl (shw_lists ih h2 rv e1) hs hz)
    | dct kvs =>
      obtain ⟨a, ks, rfl, h1, h2⟩ := sv
      cases ru
      obtain ⟨sm, ⟨vs, kv, ⟨o, es, ep, ho, hx, hdt, _, pr, _⟩⟩, _⟩ := shV_dctO I h1
      obtain ⟨ps, e1, e2⟩ := Option.map_eq_some_iff.mp e
      subst e2
      obtain ⟨q1, q2⟩ := shw_pairs ih h2 kv pr e1
      exact top rfl (shb_dict sm ho hx.1 hdt q1 q2 hs hz)
theorem o_reprH (c : Cf X) : OpNR X (.builtin "repr") reprHD := by
  intro ρ M H xs vs Q Rl dv h
  unfold reprHD at h
  split at h
  · rename_i d
    obtain ⟨v, rfl, d1⟩ := dens_one dv
    split at h
    · rename_i p e
      split at h
      · rename_i z
        exact ⟨_, cr_reprH c, ρ, M, d, v, p, rfl, Rl, d1, e, z.1, z.2.1, lim_le z.2.2, here Rl h (den_str.mpr rfl)⟩
      · exact h.elim
    · exact h.elim
  · exact h.elim
end
theorem q_reprH : QuietN reprHD := by
  intro x M c fs M' e
  unfold reprHD at e
  (repeat' split at e) <;> cases e
end Mi

end

section
set_option maxHeartbeats 4000000
namespace K02
open PySem PySem.Spec PyProof.Rows L2 Mi
/-! ### the text -/
def topS (i : Nat) : Stmt := PySem.Challenge.pw_letterbench_k02_sums_of_bytes.main.body.getD i (.Pass ⟨0, 0, 0, 0⟩)
abbrev st_is_whole : Stmt := topS 6
abbrev N_is_whole : List Str := ["thing"]
theorem sc_is_whole : FnScope N_is_whole ["thing"] (defScope st_is_whole) := ⟨rfl, rfl, rfl, by decide +kernel, rfl, by decide +kernel, by decide +kernel⟩
abbrev st_is_number : Stmt := topS 7
abbrev N_is_number : List Str := ["thing", "size"]
theorem sc_is_number : FnScope N_is_number ["thing", "size"] (defScope st_is_number) := ⟨rfl, rfl, rfl, by decide +kernel, rfl, by decide +kernel, by decide +kernel⟩
abbrev st_bytes_of : Stmt := topS 8
abbrev N_bytes_of : List Str := ["number", "size", "order", "lowest_first", "place"]
theorem sc_bytes_of : FnScope N_bytes_of ["number", "size", "order"] (defScope st_bytes_of) := ⟨rfl, rfl, rfl, by decide +kernel, rfl, by decide +kernel, by decide +kernel⟩
abbrev st_sum_size : Stmt := topS 9
abbrev N_sum_size : List Str := ["rule"]
theorem sc_sum_size : FnScope N_sum_size ["rule"] (defScope st_sum_size) := ⟨rfl, rfl, rfl, by decide +kernel, rfl, by decide +kernel, by decide +kernel⟩
abbrev st_mixed_on : Stmt := topS 10
abbrev N_mixed_on : List Str := ["so_far", "some", "worth", "byte"]
theorem sc_mixed_on : FnScope N_mixed_on ["so_far", "some"] (defScope st_mixed_on) := ⟨rfl, rfl, rfl, by decide +kernel, rfl, by decide +kernel, by decide +kernel⟩
abbrev st_sum_by : Stmt := topS 11
abbrev N_sum_by : List Str := ["rule", "some", "place", "byte"]
theorem sc_sum_by : FnScope N_sum_by ["rule", "some"] (defScope st_sum_by) := ⟨rfl, rfl, rfl, by decide +kernel, rfl, by decide +kernel, by decide +kernel⟩
abbrev st_sum_bytes : Stmt := topS 12
abbrev N_sum_bytes : List Str := ["rule", "some"]
theorem sc_sum_bytes : FnScope N_sum_bytes ["rule", "some"] (defScope st_sum_bytes) := ⟨rfl, rfl, rfl, by decide +kernel, rfl, by decide +kernel, by decide +kernel⟩
abbrev st__law_left : Stmt := topS 14
abbrev N__law_left : List Str := ["_law_cell", "_law_left_here", "_law_seed", "_law_turn"]
theorem sc__law_left : FnScope N__law_left ["_law_cell"] (defScope st__law_left) := ⟨rfl, rfl, rfl, by decide +kernel, rfl, by decide +kernel, by decide +kernel⟩
abbrev st__law_digit : Stmt := topS 15
abbrev N__law_digit : List Str := ["_law_left_here", "_law_wide", "_law_found"]
theorem sc__law_digit : FnScope N__law_digit ["_law_left_here", "_law_wide"] (defScope st__law_digit) := ⟨rfl, rfl, rfl, by decide +kernel, rfl, by decide +kernel, by decide +kernel⟩
abbrev st__law_plain : Stmt := topS 16
abbrev N__law_plain : List Str := ["_law_line", "_law_found", "_law_byte"]
theorem sc__law_plain : FnScope N__law_plain ["_law_line"] (defScope st__law_plain) := ⟨rfl, rfl, rfl, by decide +kernel, rfl, by decide +kernel, by decide +kernel⟩
abbrev st__law_placed : Stmt := topS 17
abbrev N__law_placed : List Str := ["_law_line", "_law_found", "_law_at", "_law_turn"]
theorem sc__law_placed : FnScope N__law_placed ["_law_line"] (defScope st__law_placed) := ⟨rfl, rfl, rfl, by decide +kernel, rfl, by decide +kernel, by decide +kernel⟩
abbrev st__law_mixed : Stmt := topS 18
abbrev N__law_mixed : List Str := ["_law_line", "_law_found", "_law_byte"]
theorem sc__law_mixed : FnScope N__law_mixed ["_law_line"] (defScope st__law_mixed) := ⟨rfl, rfl, rfl, by decide +kernel, rfl, by decide +kernel, by decide +kernel⟩
abbrev st__law_right : Stmt := topS 19
abbrev N__law_right : List Str := ["_law_line", "_law_kept", "_law_due", "_law_word", "_law_number", "_law_told"]
theorem sc__law_right : FnScope N__law_right ["_law_line"] (defScope st__law_right) := ⟨rfl, rfl, rfl, by decide +kernel, rfl, by decide +kernel, by decide +kernel⟩
abbrev st_law : Stmt := topS 20
abbrev N_law : List Str := ["_law_script", "_law_far", "_law_cell", "_law_left_here", "_law_line", "_law_turn", "_law_at", "_law_bent", "_law_one", "_law_k"]
theorem sc_law : FnScope N_law ["_law_script"] (defScope st_law) := ⟨rfl, rfl, rfl, by decide +kernel, rfl, by decide +kernel, by decide +kernel⟩
/-! ### tables -/
def tbl_SUM_SIZES : List (Str × D) := [("plain", .int 1), ("placed", .int 2), ("mixed", .int 2)]
def ctab : ATab := []
def atab : ATab := []
/-! ### the functions -/
noncomputable def b_is_whole : MS := bCons (cRet (mAnd (mN isiD (aCons (mVar 0) (aCons (mC (.ty "int")) (aNil)))) (m1 notD (mN isiD (aCons (mVar 0) (aCons (mC (.ty "bool")) (aNil)))))))
  (bNil)
noncomputable def m_is_whole : MF := sealed (mFn 1 b_is_whole)
theorem m_is_whole_eq : m_is_whole = mFn 1 b_is_whole := sealed_eq _
noncomputable def b_sum_size : MS := bCons (cRet (m1 (tabD tbl_SUM_SIZES) (mVar 0)))
  (bNil)
noncomputable def m_sum_size : MF := sealed (mFn 1 b_sum_size)
theorem m_sum_size_eq : m_sum_size = mFn 1 b_sum_size := sealed_eq _
noncomputable def p_mixed_on_L0 : MS := bCons (cAsg (m2 modD (m2 addD (m2 mulD (mVar 2) (mC (.int 33))) (mVar 3)) (mC (.int 65536))) (gNam 2))
  (bNil)
noncomputable def b_mixed_on : MS := bCons (cAsg (mVar 0) (gNam 2))
  (bCons (cFor (mItems (mVar 1)) (gNam 3) (p_mixed_on_L0))
  (bCons (cRet (mVar 2))
  (bNil)))
noncomputable def m_mixed_on : MF := sealed (mFn 4 b_mixed_on)
theorem m_mixed_on_eq : m_mixed_on = mFn 4 b_mixed_on := sealed_eq _
noncomputable def p_law_left_L0 : MS := bCons (cAsg (m2 modD (m2 mulD (m2 addD (m2 modD (mVar 2) (mC (.int 2147483629))) (mC (.int 30011))) (mC (.int 48271))) (mC (.int 2147483629))) (gNam 2))
  (bCons (cAsg (m2 addD (m2 modD (m2 mulD (mVar 2) (mC (.int 39373))) (mC (.int 2147483647))) (mVar 3)) (gNam 2))
  (bCons (cAsg (m2 addD (m2 mulD (mVar 1) (mC (.int 2147483629))) (mVar 2)) (gNam 1))
  (bNil)))
noncomputable def b_law_left : MS := bCons (cAsg (mN absD (aCons (mVar 0) (aNil))) (gNam 1))
  (bCons (cIf (mB (m2 ltD (mVar 1) (m2 powD (mC (.int 10)) (mC (.int 18))))) (bCons (cAsg (mVar 0) (gNam 2))
  (bCons (cFor (mI rng1D (aCons (mC (.int 40)) (aNil))) (gNam 3) (p_law_left_L0))
  (bNil))) (bNil))
  (bCons (cRet (mN celD (aCons (mVar 1) (aNil))))
  (bNil)))
noncomputable def m_law_left : MF := sealed (mFn 4 b_law_left)
theorem m_law_left_eq : m_law_left = mFn 4 b_law_left := sealed_eq _
noncomputable def b_law_digit : MS := bCons (cAsg (m2 modD (m2 ixD (mVar 0) (mC (.int 0))) (mVar 1)) (gNam 2))
  (bCons (cPut (m2 fdivD (m2 ixD (mVar 0) (mC (.int 0))) (mVar 1)) (mVar 0) (mC (.int 0)))
  (bCons (cRet (mVar 2))
  (bNil)))
noncomputable def m_law_digit : MF := sealed (mFn 3 b_law_digit)
theorem m_law_digit_eq : m_law_digit = mFn 3 b_law_digit := sealed_eq _
noncomputable def p_law_plain_L0 : MS := bCons (cAsg (m2 modD (m2 addD (mVar 1) (mVar 2)) (mC (.int 256))) (gNam 1))
  (bNil)
noncomputable def b_law_plain : MS := bCons (cAsg (mC (.int 0)) (gNam 1))
  (bCons (cFor (mItems (mVar 0)) (gNam 2) (p_law_plain_L0))
  (bCons (cRet (mVar 1))
  (bNil)))
noncomputable def m_law_plain : MF := sealed (mFn 3 b_law_plain)
theorem m_law_plain_eq : m_law_plain = mFn 3 b_law_plain := sealed_eq _
noncomputable def p_law_placed_L0 : MS := bCons (cAsg (m2 addD (mVar 1) (m2 ixD (mVar 0) (mVar 2))) (gNam 1))
  (bNil)
noncomputable def p_law_placed_L1 : MS := bCons (cFor (mI rng1D (aCons (m2 addD (mVar 2) (mC (.int 1))) (aNil))) (gNam 3) (p_law_placed_L0))
  (bNil)
noncomputable def b_law_placed : MS := bCons (cAsg (mC (.int 0)) (gNam 1))
  (bCons (cFor (mI rng1D (aCons (mN lenD (aCons (mVar 0) (aNil))) (aNil))) (gNam 2) (p_law_placed_L1))
  (bCons (cRet (m2 modD (mVar 1) (mC (.int 65521))))
  (bNil)))
noncomputable def m_law_placed : MF := sealed (mFn 4 b_law_placed)
theorem m_law_placed_eq : m_law_placed = mFn 4 b_law_placed := sealed_eq _
noncomputable def p_law_mixed_L0 : MS := bCons (cAsg (m2 modD (m2 addD (m2 mulD (mC (.int 33)) (mVar 1)) (mVar 2)) (m2 shlD (mC (.int 1)) (mC (.int 16)))) (gNam 1))
  (bNil)
noncomputable def b_law_mixed : MS := bCons (cAsg (mC (.int 5381)) (gNam 1))
  (bCons (cFor (mItems (mVar 0)) (gNam 2) (p_law_mixed_L0))
  (bCons (cRet (mVar 1))
  (bNil)))
noncomputable def m_law_mixed : MF := sealed (mFn 3 b_law_mixed)
theorem m_law_mixed_eq : m_law_mixed = mFn 3 b_law_mixed := sealed_eq _
noncomputable def b_is_number : MS := bCons (cRet (mAnd (mCall m_is_whole 1 0 [.p 0] [] (aCons (mVar 0) (aNil)) (aNil)) (mAnd (m2 geD (mVar 0) (mC (.int 0))) (m2 leD (m1 bitsD (mVar 0)) (m2 mulD (mC (.int 8)) (mVar 1))))))
  (bNil)
noncomputable def m_is_number : MF := sealed (mFn 2 b_is_number)
theorem m_is_number_eq : m_is_number = mFn 2 b_is_number := sealed_eq _
noncomputable def p_sum_by_C0 : ME := m2 mulD (mVar 2) (mVar 3)
noncomputable def b_sum_by : MS := bCons (cIf (mB (m2 eqD (mVar 0) (mC (.str "plain")))) (bCons (cRet (m2 modD (mN sumD (aCons (mVar 1) (aNil))) (mC (.int 256))))
  (bNil)) (bNil))
  (bCons (cIf (mB (m2 eqD (mVar 0) (mC (.str "placed")))) (bCons (cRet (m2 modD (mN sumD (aCons (mLc (mI (enumD 1) (aCons (mVar 1) (aNil))) (gTupD 2 (gsCons (gNam 2) (gsCons (gNam 3) (gsNil)))) (mYes) (p_sum_by_C0) [2, 3]) (aNil))) (mC (.int 65521))))
  (bNil)) (bNil))
  (bCons (cRet (mCall m_mixed_on 2 0 [.p 0, .p 1] [] (aCons (mC (.int 5381)) (aCons (mVar 1) (aNil))) (aNil)))
  (bNil)))
noncomputable def m_sum_by : MF := sealed (mFn 4 b_sum_by)
theorem m_sum_by_eq : m_sum_by = mFn 4 b_sum_by := sealed_eq _
noncomputable def p_bytes_of_C0 : ME := m2 andD (m2 shrD (mVar 0) (m2 mulD (mC (.int 8)) (mVar 4))) (mC (.int 255))
noncomputable def b_bytes_of : MS := bCons (cIf (mNotT (mTru (mCall m_is_number 2 0 [.p 0, .p 1] [] (aCons (mVar 0) (aCons (mVar 1) (aNil))) (aNil)))) (bCons (mRaise0 "NoNumber" (aCons (mC (.str "not a number of this size")) (aNil)))
  (bNil)) (bNil))
  (bCons (cAsg (mN tupOfD (aCons (mLc (mI rng1D (aCons (mVar 1) (aNil))) (gNam 4) (mYes) (p_bytes_of_C0) [4]) (aNil))) (gNam 3))
  (bCons (cIf (mB (m2 eqD (mVar 2) (mC (.str "small")))) (bCons (cRet (mVar 3))
  (bNil)) (bNil))
  (bCons (cRet (m2 revD (mVar 3) (m1 negD (mC (.int 1)))))
  (bNil))))
noncomputable def m_bytes_of : MF := sealed (mFn 5 b_bytes_of)
theorem m_bytes_of_eq : m_bytes_of = mFn 5 b_bytes_of := sealed_eq _
noncomputable def b_sum_bytes : MS := bCons (cRet (mCall m_bytes_of 2 0 [.p 0, .p 1, .d 0] [.str "big"] (aCons (mCall m_sum_by 2 0 [.p 0, .p 1] [] (aCons (mVar 0) (aCons (mVar 1) (aNil))) (aNil)) (aCons (mCall m_sum_size 1 0 [.p 0] [] (aCons (mVar 0) (aNil)) (aNil)) (aNil))) (aNil)))
  (bNil)
noncomputable def m_sum_bytes : MF := sealed (mFn 2 b_sum_bytes)
theorem m_sum_bytes_eq : m_sum_bytes = mFn 2 b_sum_bytes := sealed_eq _
noncomputable def p_law_right_L0 : MS := bCons (cAsg (mIf (mB (m2 eqD (mVar 3) (mC (.str "plain")))) (mN tupD (aCons (mVar 4) (aNil))) (mN tupD (aCons (m2 fdivD (mVar 4) (mC (.int 256))) (aCons (m2 modD (mVar 4) (mC (.int 256))) (aNil))))) (gNam 5))
  (bCons (cIf (mOrT (mB (m2 neD (mCall m_sum_by 2 0 [.p 0, .p 1] [] (aCons (mVar 3) (aCons (mVar 0) (aNil))) (aNil)) (mVar 4))) (mOrT (mB (m2 neD (mCall m_sum_bytes 2 0 [.p 0, .p 1] [] (aCons (mVar 3) (aCons (mVar 0) (aNil))) (aNil)) (mVar 5))) (mB (m2 neD (mCall m_sum_size 1 0 [.p 0] [] (aCons (mVar 3) (aNil)) (aNil)) (mN lenD (aCons (mVar 5) (aNil))))))) (bCons (cRet (mC (.bl false)))
  (bNil)) (bNil))
  (bCons (cIf (mOrT (mB (m2 neD (mCall m_sum_by 0 2 [.k 1, .k 0] [] (aNil) (aCons (mVar 0) (aCons (mVar 3) (aNil)))) (mVar 4))) (mB (m2 neD (mCall m_sum_bytes 0 2 [.k 1, .k 0] [] (aNil) (aCons (mVar 0) (aCons (mVar 3) (aNil)))) (mVar 5)))) (bCons (cRet (mC (.bl false)))
  (bNil)) (bNil))
  (bCons (cIf (mB (m2 neD (mCall m_sum_size 0 1 [.k 0] [] (aNil) (aCons (mVar 3) (aNil))) (mN lenD (aCons (mVar 5) (aNil))))) (bCons (cRet (mC (.bl false)))
  (bNil)) (bNil))
  (bCons (cIf (mTru (mN isiD (aCons (mCall m_sum_by 2 0 [.p 0, .p 1] [] (aCons (mVar 3) (aCons (mVar 0) (aNil))) (aNil)) (aCons (mC (.ty "bool")) (aNil))))) (bCons (cRet (mC (.bl false)))
  (bNil)) (bNil))
  (bNil)))))
noncomputable def b_law_right : MS := bCons (cAsg (mN reprD (aCons (mVar 0) (aNil))) (gNam 1))
  (bCons (cAsg (mN lstD (aCons (mN tupD (aCons (mC (.str "plain")) (aCons (mCall m_law_plain 1 0 [.p 0] [] (aCons (mVar 0) (aNil)) (aNil)) (aNil)))) (aCons (mN tupD (aCons (mC (.str "placed")) (aCons (mCall m_law_placed 1 0 [.p 0] [] (aCons (mVar 0) (aNil)) (aNil)) (aNil)))) (aCons (mN tupD (aCons (mC (.str "mixed")) (aCons (mCall m_law_mixed 1 0 [.p 0] [] (aCons (mVar 0) (aNil)) (aNil)) (aNil)))) (aNil))))) (gNam 2))
  (bCons (cFor (mItems (mVar 2)) (gTupD 2 (gsCons (gNam 3) (gsCons (gNam 4) (gsNil)))) (p_law_right_L0))
  (bCons (cRet (m2 eqD (mN reprD (aCons (mVar 0) (aNil))) (mVar 1)))
  (bNil))))
noncomputable def m_law_right : MF := sealed (mFn 6 b_law_right)
theorem m_law_right_eq : m_law_right = mFn 6 b_law_right := sealed_eq _
noncomputable def p_law_C0 : ME := m2 modD (m2 mulD (mVar 9) (mC (.int 7))) (mC (.int 256))
noncomputable def p_law_L1 : MS := bCons (cAsg (m2 addD (mVar 4) (mN tupD (aCons (m2 ixD (mN lstD (aCons (mC (.int 0)) (aCons (mC (.int 255)) (aCons (mC (.int 1)) (aCons (mCall m_law_digit 2 0 [.p 0, .p 1] [] (aCons (mVar 3) (aCons (mC (.int 256)) (aNil))) (aNil)) (aNil)))))) (mCall m_law_digit 2 0 [.p 0, .p 1] [] (aCons (mVar 3) (aCons (mC (.int 4)) (aNil))) (aNil))) (aNil)))) (gNam 4))
  (bNil)
noncomputable def p_law_L2 : MS := bCons (cIf (mNotT (mTru (mCall m_law_right 1 0 [.p 0] [] (aCons (mVar 8) (aNil)) (aNil)))) (bCons (cRet (mC (.bl false)))
  (bNil)) (bNil))
  (bNil)
noncomputable def p_law_L3 : MS := bCons (cAsg (mCall m_law_left 1 0 [.p 0] [] (aCons (mVar 2) (aNil)) (aNil)) (gNam 3))
  (bCons (cAsg (mN tupD (aNil)) (gNam 4))
  (bCons (cFor (mI rng1D (aCons (mCall m_law_digit 2 0 [.p 0, .p 1] [] (aCons (mVar 3) (aCons (mC (.int 60)) (aNil))) (aNil)) (aNil))) (gNam 5) (p_law_L1))
  (bCons (cAsg (mCall m_law_digit 2 0 [.p 0, .p 1] [] (aCons (mVar 3) (aCons (m2 addD (mN lenD (aCons (mVar 4) (aNil))) (mC (.int 1))) (aNil))) (aNil)) (gNam 6))
  (bCons (cAsg (m2 addD (mSl (mVar 4) (mNoP) (mPart (mVar 6))) (mSl (mVar 4) (mPart (m2 addD (mVar 6) (mC (.int 1)))) (mPart (m2 addD (mVar 6) (mC (.int 2)))))) (gNam 7))
  (bCons (cAsg (m2 addD (m2 addD (mVar 7) (mSl (mVar 4) (mPart (mVar 6)) (mPart (m2 addD (mVar 6) (mC (.int 1)))))) (mSl (mVar 4) (mPart (m2 addD (mVar 6) (mC (.int 2)))) (mNoP))) (gNam 7))
  (bCons (cFor (mItems (mN lstD (aCons (mVar 4) (aCons (m2 revD (mVar 4) (m1 negD (mC (.int 1)))) (aCons (mVar 7) (aCons (m2 addD (mVar 4) (mN tupD (aCons (mC (.int 0)) (aNil)))) (aCons (m2 addD (mN tupD (aCons (mC (.int 0)) (aNil))) (mVar 4)) (aNil)))))))) (gNam 8) (p_law_L2))
  (bCons (cIf (mB (m2 neD (mCall m_sum_by 2 0 [.p 0, .p 1] [] (aCons (mC (.str "plain")) (aCons (mVar 7) (aNil))) (aNil)) (mCall m_sum_by 2 0 [.p 0, .p 1] [] (aCons (mC (.str "plain")) (aCons (mVar 4) (aNil))) (aNil)))) (bCons (cRet (mC (.bl false)))
  (bNil)) (bNil))
  (bNil))))))))
noncomputable def b_law : MS := bCons (cAsg (mN tupOfD (aCons (mLc (mI rng1D (aCons (mC (.int 400)) (aNil))) (gNam 9) (mYes) (p_law_C0) [9]) (aNil))) (gNam 1))
  (bCons (cIf (mOrT (mNotT (mTru (mCall m_law_right 1 0 [.p 0] [] (aCons (m2 mulD (mN tupD (aCons (mC (.int 255)) (aNil))) (mC (.int 400))) (aNil)) (aNil)))) (mOrT (mNotT (mTru (mCall m_law_right 1 0 [.p 0] [] (aCons (mVar 1) (aNil)) (aNil)))) (mNotT (mTru (mCall m_law_right 1 0 [.p 0] [] (aCons (mN tupD (aNil)) (aNil)) (aNil)))))) (bCons (cRet (mC (.bl false)))
  (bNil)) (bNil))
  (bCons (cFor (mItems (m2 addD (mSl (mVar 0) (mNoP) (mPart (mC (.int 16)))) (mN lstD (aCons (mC (.int 4)) (aNil))))) (gNam 2) (p_law_L3))
  (bCons (cRet (mC (.bl true)))
  (bNil))))
noncomputable def m_law : MF := sealed (mFn 10 b_law)
theorem m_law_eq : m_law = mFn 10 b_law := sealed_eq _
/-! ### the derivations -/
section
variable {P : Program} {w : World} {K : PySem.W.Frag} {mg : Str → Option Value} {base : Heap}
theorem d_is_whole (a_is_whole : At K mg "is_whole" st_is_whole [] []) (z_isinstance : mg "isinstance" = none) (z_int : mg "int" = none) (z_bool : mg "bool" = none) : Fm P w K mg base 1 "is_whole" st_is_whole [] [] ["thing"] m_is_whole :=
  fm_seal m_is_whole_eq (fm_mk (k := 0) N_is_whole a_is_whole sc_is_whole rfl fun f cdv A outer s H E c pas => have nd := sc_is_whole.nd
  b_cons (c_ret (s_and (s_blt o_isi q_isi z_isinstance (a_cons (s_var (i := 0)) (a_cons (s_tynm z_int) (a_nil)))) (s_one (s_not (s_blt o_isi q_isi z_isinstance (a_cons (s_var (i := 0)) (a_cons (s_tynm z_bool) (a_nil))))))))
  (b_nil))
theorem d_sum_size (a_sum_size : At K mg "sum_size" st_sum_size [] []) {p_SUM_SIZES : Addr} (g_SUM_SIZES : mg "SUM_SIZES" = some (.ref p_SUM_SIZES)) (t_SUM_SIZES : KTab K w p_SUM_SIZES tbl_SUM_SIZES) : Fm P w K mg base 1 "sum_size" st_sum_size [] [] ["rule"] m_sum_size :=
  fm_seal m_sum_size_eq (fm_mk (k := 0) N_sum_size a_sum_size sc_sum_size rfl fun f cdv A outer s H E c pas => have nd := sc_sum_size.nd
  b_cons (c_ret (s_tab g_SUM_SIZES t_SUM_SIZES (s_var (i := 0))))
  (b_nil))
theorem d_mixed_on (a_mixed_on : At K mg "mixed_on" st_mixed_on [] []) : Fm P w K mg base 1 "mixed_on" st_mixed_on [] [] ["so_far", "some"] m_mixed_on :=
  fm_seal m_mixed_on_eq (fm_mk (k := 0) N_mixed_on a_mixed_on sc_mixed_on rfl fun f cdv A outer s H E c pas => have nd := sc_mixed_on.nd
  b_cons (c_set (i := 2) nd (s_var (i := 0)))
  (b_cons (c_for pas rfl (i_seq (s_var (i := 1))) (g_name nd (i := 3) rfl (by first | exact .inl rfl | exact .inr rfl)) (b_cons (c_set (i := 2) nd (s_bin o_mod q_int2 (s_bin o_add q_add (s_bin o_mul q_mul (s_var (i := 2)) (s_int)) (s_var (i := 3))) (s_int)))
  (b_nil)))
  (b_cons (c_ret (s_var (i := 2)))
  (b_nil))))
theorem d__law_left (a__law_left : At K mg "_law_left" st__law_left [] []) (z_abs : mg "abs" = none) (z_range : mg "range" = none) : Fm P w K mg base 1 "_law_left" st__law_left [] [] ["_law_cell"] m_law_left :=
  fm_seal m_law_left_eq (fm_mk (k := 0) N__law_left a__law_left sc__law_left rfl fun f cdv A outer s H E c pas => have nd := sc__law_left.nd
  b_cons (c_set (i := 1) nd (s_blt o_abs q_abs z_abs (a_cons (s_var (i := 0)) (a_nil))))
  (b_cons (c_if (t_cmp (o_lt) q_cmpD (s_var (i := 1)) (s_bin o_pow q_int2 (s_int) (s_int)) rfl) (b_cons (c_set (i := 2) nd (s_var (i := 0)))
  (b_cons (c_for pas rfl (i_rng1 z_range (a_cons (s_int) (a_nil))) (g_name nd (i := 3) rfl (by first | exact .inl rfl | exact .inr rfl)) (b_cons (c_set (i := 2) nd (s_bin o_mod q_int2 (s_bin o_mul q_mul (s_bin o_add q_add (s_bin o_mod q_int2 (s_var (i := 2)) (s_int)) (s_int)) (s_int)) (s_int)))
  (b_cons (c_set (i := 2) nd (s_bin o_add q_add (s_bin o_mod q_int2 (s_bin o_mul q_mul (s_var (i := 2)) (s_int)) (s_int)) (s_var (i := 3))))
  (b_cons (c_set (i := 1) nd (s_bin o_add q_add (s_bin o_mul q_mul (s_var (i := 1)) (s_int)) (s_var (i := 2))))
  (b_nil)))))
  (b_nil))) (b_nil))
  (b_cons (c_ret (s_cel (a_cons (s_var (i := 1)) (a_nil))))
  (b_nil))))
theorem d__law_digit (a__law_digit : At K mg "_law_digit" st__law_digit [] []) : Fm P w K mg base 1 "_law_digit" st__law_digit [] [] ["_law_left_here", "_law_wide"] m_law_digit :=
  fm_seal m_law_digit_eq (fm_mk (k := 0) N__law_digit a__law_digit sc__law_digit rfl fun f cdv A outer s H E c pas => have nd := sc__law_digit.nd
  b_cons (c_set (i := 2) nd (s_bin o_mod q_int2 (s_ix c.cf (s_var (i := 0)) (s_int)) (s_var (i := 1))))
  (b_cons (c_put c.cf (s_bin o_fdiv q_int2 (s_ix c.cf (s_var (i := 0)) (s_int)) (s_var (i := 1))) (s_var (i := 0)) (s_int))
  (b_cons (c_ret (s_var (i := 2)))
  (b_nil))))
theorem d__law_plain (a__law_plain : At K mg "_law_plain" st__law_plain [] []) : Fm P w K mg base 1 "_law_plain" st__law_plain [] [] ["_law_line"] m_law_plain :=
  fm_seal m_law_plain_eq (fm_mk (k := 0) N__law_plain a__law_plain sc__law_plain rfl fun f cdv A outer s H E c pas => have nd := sc__law_plain.nd
  b_cons (c_set (i := 1) nd (s_int))
  (b_cons (c_for pas rfl (i_seq (s_var (i := 0))) (g_name nd (i := 2) rfl (by first | exact .inl rfl | exact .inr rfl)) (b_cons (c_set (i := 1) nd (s_bin o_mod q_int2 (s_bin o_add q_add (s_var (i := 1)) (s_var (i := 2))) (s_int)))
  (b_nil)))
  (b_cons (c_ret (s_var (i := 1)))
  (b_nil))))
theorem d__law_placed (a__law_placed : At K mg "_law_placed" st__law_placed [] []) (z_range : mg "range" = none) (z_len : mg "len" = none) : Fm P w K mg base 1 "_law_placed" st__law_placed [] [] ["_law_line"] m_law_placed :=
  fm_seal m_law_placed_eq (fm_mk (k := 0) N__law_placed a__law_placed sc__law_placed rfl fun f cdv A outer s H E c pas => have nd := sc__law_placed.nd
  b_cons (c_set (i := 1) nd (s_int))
  (b_cons (c_for pas rfl (i_rng1 z_range (a_cons (s_blt o_len q_len z_len (a_cons (s_var (i := 0)) (a_nil))) (a_nil))) (g_name nd (i := 2) rfl (by first | exact .inl rfl | exact .inr rfl)) (b_cons (c_for pas rfl (i_rng1 z_range (a_cons (s_bin o_add q_add (s_var (i := 2)) (s_int)) (a_nil))) (g_name nd (i := 3) rfl (by first | exact .inl rfl | exact .inr rfl)) (b_cons (c_set (i := 1) nd (s_bin o_add q_add (s_var (i := 1)) (s_ix c.cf (s_var (i := 0)) (s_var (i := 2)))))
  (b_nil)))
  (b_nil)))
  (b_cons (c_ret (s_bin o_mod q_int2 (s_var (i := 1)) (s_int)))
  (b_nil))))
theorem d__law_mixed (a__law_mixed : At K mg "_law_mixed" st__law_mixed [] []) : Fm P w K mg base 1 "_law_mixed" st__law_mixed [] [] ["_law_line"] m_law_mixed :=
  fm_seal m_law_mixed_eq (fm_mk (k := 0) N__law_mixed a__law_mixed sc__law_mixed rfl fun f cdv A outer s H E c pas => have nd := sc__law_mixed.nd
  b_cons (c_set (i := 1) nd (s_int))
  (b_cons (c_for pas rfl (i_seq (s_var (i := 0))) (g_name nd (i := 2) rfl (by first | exact .inl rfl | exact .inr rfl)) (b_cons (c_set (i := 1) nd (s_bin o_mod q_int2 (s_bin o_add q_add (s_bin o_mul q_mul (s_int) (s_var (i := 1))) (s_var (i := 2))) (s_bin o_shl q_int2 (s_int) (s_int))))
  (b_nil)))
  (b_cons (c_ret (s_var (i := 1)))
  (b_nil))))
theorem d_is_number (a_is_number : At K mg "is_number" st_is_number [] []) (F_is_whole : Fm P w K mg base 1 "is_whole" st_is_whole [] [] ["thing"] m_is_whole) : Fm P w K mg base 2 "is_number" st_is_number [] [] ["thing", "size"] m_is_number :=
  fm_seal m_is_number_eq (fm_mk (k := 1) N_is_number a_is_number sc_is_number rfl fun f cdv A outer s H E c pas => have nd := sc_is_number.nd
  b_cons (c_ret (s_and (s_call (cs := [.p 0]) F_is_whole c (by decide) (fun _ _ F => bd_all F fun kV doc pm an cdv ct us ws h1 h2 => by match us, h1, ws, h2 with | [u0], _, [], _ => exact ⟨[u0], rfl, rfl⟩) fixS_nil (a_cons (s_var (i := 0)) (a_nil))) (s_and (s_cmp (o_ge) q_cmpD (s_var (i := 0)) (s_int) rfl) (s_one (s_cmp (o_le) q_cmpD (s_bits (s_var (i := 0))) (s_bin o_mul q_mul (s_int) (s_var (i := 1))) rfl)))))
  (b_nil))
theorem d_sum_by (a_sum_by : At K mg "sum_by" st_sum_by [] []) (z_sum : mg "sum" = none) (z_enumerate : mg "enumerate" = none) {k_MIXED_BEGIN : Tok} (g_MIXED_BEGIN : mg "MIXED_BEGIN" = some (.int 5381 k_MIXED_BEGIN)) (F_mixed_on : Fm P w K mg base 1 "mixed_on" st_mixed_on [] [] ["so_far", "some"] m_mixed_on) : Fm P w K mg base 2 "sum_by" st_sum_by [] [] ["rule", "some"] m_sum_by :=
  fm_seal m_sum_by_eq (fm_mk (k := 1) N_sum_by a_sum_by sc_sum_by rfl fun f cdv A outer s H E c pas => have nd := sc_sum_by.nd
  b_cons (c_if (t_cmp (o_eq c.cf) q_eq (s_var (i := 0)) (s_str) rfl) (b_cons (c_ret (s_bin o_mod q_int2 (s_blt (o_sum rfl) q_sum z_sum (a_cons (s_var (i := 1)) (a_nil))) (s_int)))
  (b_nil)) (b_nil))
  (b_cons (c_if (t_cmp (o_eq c.cf) q_eq (s_var (i := 0)) (s_str) rfl) (b_cons (c_ret (s_bin o_mod q_int2 (s_blt (o_sum rfl) q_sum z_sum (a_cons (s_lc rfl nd (i_enumK (k := 1) z_enumerate (a_cons (s_var (i := 1)) (a_nil)) (by decide) (by decide)) (own := [("place", 2), ("byte", 3)]) (show BlkOk N_sum_by (defScope st_sum_by) _ _ from ⟨rfl, by decide +kernel, by decide +kernel, by decide +kernel, by decide +kernel⟩) (by decide) (fun s H C cl fp => g_tup rfl (g_cons (g_name nd (i := 2) rfl (by first | exact .inl rfl | exact .inr rfl)) (g_cons (g_name nd (i := 3) rfl (by first | exact .inl rfl | exact .inr rfl)) (g_nil)))) (fun s H C cl fp => p_nil) (fun s H C cl fp => s_bin o_mul q_mul (s_var (i := 2)) (s_var (i := 3)))) (a_nil))) (s_int)))
  (b_nil)) (b_nil))
  (b_cons (c_ret (s_call (cs := [.p 0, .p 1]) F_mixed_on c (by decide) (fun _ _ F => bd_all F fun kV doc pm an cdv ct us ws h1 h2 => by match us, h1, ws, h2 with | [u0, u1], _, [], _ => exact ⟨[u0, u1], rfl, rfl⟩) fixS_nil (a_cons (s_glob (v := V.int 5381) g_MIXED_BEGIN ⟨_, rfl⟩ fix_int) (a_cons (s_var (i := 1)) (a_nil)))))
  (b_nil))))
theorem d_bytes_of (a_bytes_of : At K mg "bytes_of" st_bytes_of [] [("order", V.str "big")]) (r_NoNumber : RC0 K mg "NoNumber") (z_tuple : mg "tuple" = none) (z_range : mg "range" = none) (F_is_number : Fm P w K mg base 2 "is_number" st_is_number [] [] ["thing", "size"] m_is_number) : Fm P w K mg base 3 "bytes_of" st_bytes_of [] [("order", V.str "big")] ["number", "size", "order"] m_bytes_of :=
  fm_seal m_bytes_of_eq (fm_mk (k := 2) N_bytes_of a_bytes_of sc_bytes_of rfl fun f cdv A outer s H E c pas => have nd := sc_bytes_of.nd
  b_cons (c_if (t_not (t_tru (s_call (cs := [.p 0, .p 1]) F_is_number c (by decide) (fun _ _ F => bd_all F fun kV doc pm an cdv ct us ws h1 h2 => by match us, h1, ws, h2 with | [u0, u1], _, [], _ => exact ⟨[u0, u1], rfl, rfl⟩) fixS_nil (a_cons (s_var (i := 0)) (a_cons (s_var (i := 1)) (a_nil)))))) (b_cons (c_raiseN c.tk r_NoNumber (a_cons (s_str) (a_nil)))
  (b_nil)) (b_nil))
  (b_cons (c_set (i := 3) nd (s_bty o_tupOf q_tupOf z_tuple (a_cons (s_lc rfl nd (i_rng1 z_range (a_cons (s_var (i := 1)) (a_nil))) (own := [("place", 4)]) (show BlkOk N_bytes_of (defScope st_bytes_of) _ _ from ⟨rfl, by decide +kernel, by decide +kernel, by decide +kernel, by decide +kernel⟩) (by decide) (fun s H C cl fp => g_name nd (i := 4) rfl (by first | exact .inl rfl | exact .inr rfl)) (fun s H C cl fp => p_nil) (fun s H C cl fp => s_bin o_and q_int2 (s_bin o_shr q_int2 (s_var (i := 0)) (s_bin o_mul q_mul (s_int) (s_var (i := 4)))) (s_int))) (a_nil))))
  (b_cons (c_if (t_cmp (o_eq c.cf) q_eq (s_var (i := 2)) (s_str) rfl) (b_cons (c_ret (s_var (i := 3)))
  (b_nil)) (b_nil))
  (b_cons (c_ret (s_rev (s_var (i := 3)) (s_neg (s_int))))
  (b_nil)))))
theorem d_sum_bytes (a_sum_bytes : At K mg "sum_bytes" st_sum_bytes [] []) (F_bytes_of : Fm P w K mg base 3 "bytes_of" st_bytes_of [] [("order", V.str "big")] ["number", "size", "order"] m_bytes_of) (F_sum_by : Fm P w K mg base 2 "sum_by" st_sum_by [] [] ["rule", "some"] m_sum_by) (F_sum_size : Fm P w K mg base 1 "sum_size" st_sum_size [] [] ["rule"] m_sum_size) : Fm P w K mg base 4 "sum_bytes" st_sum_bytes [] [] ["rule", "some"] m_sum_bytes :=
  fm_seal m_sum_bytes_eq (fm_mk (k := 3) N_sum_bytes a_sum_bytes sc_sum_bytes rfl fun f cdv A outer s H E c pas => have nd := sc_sum_bytes.nd
  b_cons (c_ret (s_call (cs := [.p 0, .p 1, .d 0]) F_bytes_of c (by decide) (fun _ _ F => bd_kw F [("order", V.str "big")] (by simp) (by simp) fun Dk doc pm an cdv ct us ws mv h1 h2 h3 => by match us, h1, ws, h2, mv, h3 with | [u0, u1], _, [], _, [v0], _ => exact ⟨[u0, u1, v0], rfl, ⟨_, _, _, _, _, _, rfl, rfl, rfl⟩⟩) (fixS_cons fix_str fixS_nil) (a_cons (s_call (cs := [.p 0, .p 1]) F_sum_by c (by decide) (fun _ _ F => bd_all F fun kV doc pm an cdv ct us ws h1 h2 => by match us, h1, ws, h2 with | [u0, u1], _, [], _ => exact ⟨[u0, u1], rfl, rfl⟩) fixS_nil (a_cons (s_var (i := 0)) (a_cons (s_var (i := 1)) (a_nil)))) (a_cons (s_call (cs := [.p 0]) F_sum_size c (by decide) (fun _ _ F => bd_all F fun kV doc pm an cdv ct us ws h1 h2 => by match us, h1, ws, h2 with | [u0], _, [], _ => exact ⟨[u0], rfl, rfl⟩) fixS_nil (a_cons (s_var (i := 0)) (a_nil))) (a_nil)))))
  (b_nil))
theorem d__law_right (a__law_right : At K mg "_law_right" st__law_right [] []) (z_repr : mg "repr" = none) (z_len : mg "len" = none) (z_isinstance : mg "isinstance" = none) (z_bool : mg "bool" = none) (F__law_plain : Fm P w K mg base 1 "_law_plain" st__law_plain [] [] ["_law_line"] m_law_plain) (F__law_placed : Fm P w K mg base 1 "_law_placed" st__law_placed [] [] ["_law_line"] m_law_placed) (F__law_mixed : Fm P w K mg base 1 "_law_mixed" st__law_mixed [] [] ["_law_line"] m_law_mixed) (F_sum_by : Fm P w K mg base 2 "sum_by" st_sum_by [] [] ["rule", "some"] m_sum_by) (F_sum_bytes : Fm P w K mg base 4 "sum_bytes" st_sum_bytes [] [] ["rule", "some"] m_sum_bytes) (F_sum_size : Fm P w K mg base 1 "sum_size" st_sum_size [] [] ["rule"] m_sum_size) : Fm P w K mg base 5 "_law_right" st__law_right [] [] ["_law_line"] m_law_right :=
  fm_seal m_law_right_eq (fm_mk (k := 4) N__law_right a__law_right sc__law_right rfl fun f cdv A outer s H E c pas => have nd := sc__law_right.nd
  b_cons (c_set (i := 1) nd (s_blt (o_repr c.cf) q_repr z_repr (a_cons (s_var (i := 0)) (a_nil))))
  (b_cons (c_set (i := 2) nd (s_lst (a_cons (s_tup (a_cons (s_str) (a_cons (s_call (cs := [.p 0]) F__law_plain c (by decide) (fun _ _ F => bd_all F fun kV doc pm an cdv ct us ws h1 h2 => by match us, h1, ws, h2 with | [u0], _, [], _ => exact ⟨[u0], rfl, rfl⟩) fixS_nil (a_cons (s_var (i := 0)) (a_nil))) (a_nil)))) (a_cons (s_tup (a_cons (s_str) (a_cons (s_call (cs := [.p 0]) F__law_placed c (by decide) (fun _ _ F => bd_all F fun kV doc pm an cdv ct us ws h1 h2 => by match us, h1, ws, h2 with | [u0], _, [], _ => exact ⟨[u0], rfl, rfl⟩) fixS_nil (a_cons (s_var (i := 0)) (a_nil))) (a_nil)))) (a_cons (s_tup (a_cons (s_str) (a_cons (s_call (cs := [.p 0]) F__law_mixed c (by decide) (fun _ _ F => bd_all F fun kV doc pm an cdv ct us ws h1 h2 => by match us, h1, ws, h2 with | [u0], _, [], _ => exact ⟨[u0], rfl, rfl⟩) fixS_nil (a_cons (s_var (i := 0)) (a_nil))) (a_nil)))) (a_nil))))))
  (b_cons (c_for pas rfl (i_seq (s_var (i := 2))) (g_tup rfl (g_cons (g_name nd (i := 3) rfl (by first | exact .inl rfl | exact .inr rfl)) (g_cons (g_name nd (i := 4) rfl (by first | exact .inl rfl | exact .inr rfl)) (g_nil)))) (b_cons (c_set (i := 5) nd (s_if (t_cmp (o_eq c.cf) q_eq (s_var (i := 3)) (s_str) rfl) (s_tup (a_cons (s_var (i := 4)) (a_nil))) (s_tup (a_cons (s_bin o_fdiv q_int2 (s_var (i := 4)) (s_int)) (a_cons (s_bin o_mod q_int2 (s_var (i := 4)) (s_int)) (a_nil))))))
  (b_cons (c_if (t_w (w_or (t_cmp (o_ne c.cf) q_ne (s_call (cs := [.p 0, .p 1]) F_sum_by c (by decide) (fun _ _ F => bd_all F fun kV doc pm an cdv ct us ws h1 h2 => by match us, h1, ws, h2 with | [u0, u1], _, [], _ => exact ⟨[u0, u1], rfl, rfl⟩) fixS_nil (a_cons (s_var (i := 3)) (a_cons (s_var (i := 0)) (a_nil)))) (s_var (i := 4)) rfl) (w_or (t_cmp (o_ne c.cf) q_ne (s_call (cs := [.p 0, .p 1]) F_sum_bytes c (by decide) (fun _ _ F => bd_all F fun kV doc pm an cdv ct us ws h1 h2 => by match us, h1, ws, h2 with | [u0, u1], _, [], _ => exact ⟨[u0, u1], rfl, rfl⟩) fixS_nil (a_cons (s_var (i := 3)) (a_cons (s_var (i := 0)) (a_nil)))) (s_var (i := 5)) rfl) (w_or1 (t_cmp (o_ne c.cf) q_ne (s_call (cs := [.p 0]) F_sum_size c (by decide) (fun _ _ F => bd_all F fun kV doc pm an cdv ct us ws h1 h2 => by match us, h1, ws, h2 with | [u0], _, [], _ => exact ⟨[u0], rfl, rfl⟩) fixS_nil (a_cons (s_var (i := 3)) (a_nil))) (s_blt o_len q_len z_len (a_cons (s_var (i := 5)) (a_nil))) rfl))))) (b_cons (c_ret (s_bl))
  (b_nil)) (b_nil))
  (b_cons (c_if (t_w (w_or (t_cmp (o_ne c.cf) q_ne (s_callK0 (cs := [.k 1, .k 0]) (ks := ["some", "rule"]) F_sum_by c (by decide) (fun _ _ F => bd_all F fun kV doc pm an cdv ct us ws h1 h2 => by match us, h1, ws, h2 with | [], _, [w0, w1], _ => exact ⟨[w1, w0], rfl, rfl⟩) fixS_nil (k_cons (s_var (i := 0)) (k_cons (s_var (i := 3)) (k_nil)))) (s_var (i := 4)) rfl) (w_or1 (t_cmp (o_ne c.cf) q_ne (s_callK0 (cs := [.k 1, .k 0]) (ks := ["some", "rule"]) F_sum_bytes c (by decide) (fun _ _ F => bd_all F fun kV doc pm an cdv ct us ws h1 h2 => by match us, h1, ws, h2 with | [], _, [w0, w1], _ => exact ⟨[w1, w0], rfl, rfl⟩) fixS_nil (k_cons (s_var (i := 0)) (k_cons (s_var (i := 3)) (k_nil)))) (s_var (i := 5)) rfl)))) (b_cons (c_ret (s_bl))
  (b_nil)) (b_nil))
  (b_cons (c_if (t_cmp (o_ne c.cf) q_ne (s_callK0 (cs := [.k 0]) (ks := ["rule"]) F_sum_size c (by decide) (fun _ _ F => bd_all F fun kV doc pm an cdv ct us ws h1 h2 => by match us, h1, ws, h2 with | [], _, [w0], _ => exact ⟨[w0], rfl, rfl⟩) fixS_nil (k_cons (s_var (i := 3)) (k_nil))) (s_blt o_len q_len z_len (a_cons (s_var (i := 5)) (a_nil))) rfl) (b_cons (c_ret (s_bl))
  (b_nil)) (b_nil))
  (b_cons (c_if (t_tru (s_blt o_isi q_isi z_isinstance (a_cons (s_call (cs := [.p 0, .p 1]) F_sum_by c (by decide) (fun _ _ F => bd_all F fun kV doc pm an cdv ct us ws h1 h2 => by match us, h1, ws, h2 with | [u0, u1], _, [], _ => exact ⟨[u0, u1], rfl, rfl⟩) fixS_nil (a_cons (s_var (i := 3)) (a_cons (s_var (i := 0)) (a_nil)))) (a_cons (s_tynm z_bool) (a_nil))))) (b_cons (c_ret (s_bl))
  (b_nil)) (b_nil))
  (b_nil)))))))
  (b_cons (c_ret (s_cmp (o_eq c.cf) q_eq (s_blt (o_repr c.cf) q_repr z_repr (a_cons (s_var (i := 0)) (a_nil))) (s_var (i := 1)) rfl))
  (b_nil)))))
theorem d_law (a_law : At K mg "law" st_law [] []) (z_tuple : mg "tuple" = none) (z_range : mg "range" = none) (z_len : mg "len" = none) (F__law_right : Fm P w K mg base 5 "_law_right" st__law_right [] [] ["_law_line"] m_law_right) (F__law_left : Fm P w K mg base 1 "_law_left" st__law_left [] [] ["_law_cell"] m_law_left) (F__law_digit : Fm P w K mg base 1 "_law_digit" st__law_digit [] [] ["_law_left_here", "_law_wide"] m_law_digit) (F_sum_by : Fm P w K mg base 2 "sum_by" st_sum_by [] [] ["rule", "some"] m_sum_by) : Fm P w K mg base 6 "law" st_law [] [] ["_law_script"] m_law :=
  fm_seal m_law_eq (fm_mk (k := 5) N_law a_law sc_law rfl fun f cdv A outer s H E c pas => have nd := sc_law.nd
  b_cons (c_set (i := 1) nd (s_bty o_tupOf q_tupOf z_tuple (a_cons (s_lc rfl nd (i_rng1 z_range (a_cons (s_int) (a_nil))) (own := [("_law_k", 9)]) (show BlkOk N_law (defScope st_law) _ _ from ⟨rfl, by decide +kernel, by decide +kernel, by decide +kernel, by decide +kernel⟩) (by decide) (fun s H C cl fp => g_name nd (i := 9) rfl (by first | exact .inl rfl | exact .inr rfl)) (fun s H C cl fp => p_nil) (fun s H C cl fp => s_bin o_mod q_int2 (s_bin o_mul q_mul (s_var (i := 9)) (s_int)) (s_int))) (a_nil))))
  (b_cons (c_if (t_w (w_or (t_not (t_tru (s_call (cs := [.p 0]) F__law_right c (by decide) (fun _ _ F => bd_all F fun kV doc pm an cdv ct us ws h1 h2 => by match us, h1, ws, h2 with | [u0], _, [], _ => exact ⟨[u0], rfl, rfl⟩) fixS_nil (a_cons (s_bin o_mul q_mul (s_tup (a_cons (s_int) (a_nil))) (s_int)) (a_nil))))) (w_or (t_not (t_tru (s_call (cs := [.p 0]) F__law_right c (by decide) (fun _ _ F => bd_all F fun kV doc pm an cdv ct us ws h1 h2 => by match us, h1, ws, h2 with | [u0], _, [], _ => exact ⟨[u0], rfl, rfl⟩) fixS_nil (a_cons (s_var (i := 1)) (a_nil))))) (w_or1 (t_not (t_tru (s_call (cs := [.p 0]) F__law_right c (by decide) (fun _ _ F => bd_all F fun kV doc pm an cdv ct us ws h1 h2 => by match us, h1, ws, h2 with | [u0], _, [], _ => exact ⟨[u0], rfl, rfl⟩) fixS_nil (a_cons (s_tup (a_nil)) (a_nil))))))))) (b_cons (c_ret (s_bl))
  (b_nil)) (b_nil))
  (b_cons (c_for pas rfl (i_seq (s_bin o_add q_add (s_sl (s_var (i := 0)) (p_no) (p_some (s_int))) (s_lst (a_cons (s_int) (a_nil))))) (g_name nd (i := 2) rfl (by first | exact .inl rfl | exact .inr rfl)) (b_cons (c_set (i := 3) nd (s_call (cs := [.p 0]) F__law_left c (by decide) (fun _ _ F => bd_all F fun kV doc pm an cdv ct us ws h1 h2 => by match us, h1, ws, h2 with | [u0], _, [], _ => exact ⟨[u0], rfl, rfl⟩) fixS_nil (a_cons (s_var (i := 2)) (a_nil))))
  (b_cons (c_set (i := 4) nd (s_tup (a_nil)))
  (b_cons (c_for pas rfl (i_rng1 z_range (a_cons (s_call (cs := [.p 0, .p 1]) F__law_digit c (by decide) (fun _ _ F => bd_all F fun kV doc pm an cdv ct us ws h1 h2 => by match us, h1, ws, h2 with | [u0, u1], _, [], _ => exact ⟨[u0, u1], rfl, rfl⟩) fixS_nil (a_cons (s_var (i := 3)) (a_cons (s_int) (a_nil)))) (a_nil))) (g_name nd (i := 5) rfl (by first | exact .inl rfl | exact .inr rfl)) (b_cons (c_set (i := 4) nd (s_bin o_add q_add (s_var (i := 4)) (s_tup (a_cons (s_ix c.cf (s_lst (a_cons (s_int) (a_cons (s_int) (a_cons (s_int) (a_cons (s_call (cs := [.p 0, .p 1]) F__law_digit c (by decide) (fun _ _ F => bd_all F fun kV doc pm an cdv ct us ws h1 h2 => by match us, h1, ws, h2 with | [u0, u1], _, [], _ => exact ⟨[u0, u1], rfl, rfl⟩) fixS_nil (a_cons (s_var (i := 3)) (a_cons (s_int) (a_nil)))) (a_nil)))))) (s_call (cs := [.p 0, .p 1]) F__law_digit c (by decide) (fun _ _ F => bd_all F fun kV doc pm an cdv ct us ws h1 h2 => by match us, h1, ws, h2 with | [u0, u1], _, [], _ => exact ⟨[u0, u1], rfl, rfl⟩) fixS_nil (a_cons (s_var (i := 3)) (a_cons (s_int) (a_nil))))) (a_nil)))))
  (b_nil)))
  (b_cons (c_set (i := 6) nd (s_call (cs := [.p 0, .p 1]) F__law_digit c (by decide) (fun _ _ F => bd_all F fun kV doc pm an cdv ct us ws h1 h2 => by match us, h1, ws, h2 with | [u0, u1], _, [], _ => exact ⟨[u0, u1], rfl, rfl⟩) fixS_nil (a_cons (s_var (i := 3)) (a_cons (s_bin o_add q_add (s_blt o_len q_len z_len (a_cons (s_var (i := 4)) (a_nil))) (s_int)) (a_nil)))))
  (b_cons (c_set (i := 7) nd (s_bin o_add q_add (s_sl (s_var (i := 4)) (p_no) (p_some (s_var (i := 6)))) (s_sl (s_var (i := 4)) (p_some (s_bin o_add q_add (s_var (i := 6)) (s_int))) (p_some (s_bin o_add q_add (s_var (i := 6)) (s_int))))))
  (b_cons (c_set (i := 7) nd (s_bin o_add q_add (s_bin o_add q_add (s_var (i := 7)) (s_sl (s_var (i := 4)) (p_some (s_var (i := 6))) (p_some (s_bin o_add q_add (s_var (i := 6)) (s_int))))) (s_sl (s_var (i := 4)) (p_some (s_bin o_add q_add (s_var (i := 6)) (s_int))) (p_no))))
  (b_cons (c_for pas rfl (i_seq (s_lst (a_cons (s_var (i := 4)) (a_cons (s_rev (s_var (i := 4)) (s_neg (s_int))) (a_cons (s_var (i := 7)) (a_cons (s_bin o_add q_add (s_var (i := 4)) (s_tup (a_cons (s_int) (a_nil)))) (a_cons (s_bin o_add q_add (s_tup (a_cons (s_int) (a_nil))) (s_var (i := 4))) (a_nil)))))))) (g_name nd (i := 8) rfl (by first | exact .inl rfl | exact .inr rfl)) (b_cons (c_if (t_not (t_tru (s_call (cs := [.p 0]) F__law_right c (by decide) (fun _ _ F => bd_all F fun kV doc pm an cdv ct us ws h1 h2 => by match us, h1, ws, h2 with | [u0], _, [], _ => exact ⟨[u0], rfl, rfl⟩) fixS_nil (a_cons (s_var (i := 8)) (a_nil))))) (b_cons (c_ret (s_bl))
  (b_nil)) (b_nil))
  (b_nil)))
  (b_cons (c_if (t_cmp (o_ne c.cf) q_ne (s_call (cs := [.p 0, .p 1]) F_sum_by c (by decide) (fun _ _ F => bd_all F fun kV doc pm an cdv ct us ws h1 h2 => by match us, h1, ws, h2 with | [u0, u1], _, [], _ => exact ⟨[u0, u1], rfl, rfl⟩) fixS_nil (a_cons (s_str) (a_cons (s_var (i := 7)) (a_nil)))) (s_call (cs := [.p 0, .p 1]) F_sum_by c (by decide) (fun _ _ F => bd_all F fun kV doc pm an cdv ct us ws h1 h2 => by match us, h1, ws, h2 with | [u0, u1], _, [], _ => exact ⟨[u0, u1], rfl, rfl⟩) fixS_nil (a_cons (s_str) (a_cons (s_var (i := 4)) (a_nil)))) rfl) (b_cons (c_ret (s_bl))
  (b_nil)) (b_nil))
  (b_nil))))))))))
  (b_cons (c_ret (s_bl))
  (b_nil)))))
end

end K02
end

section
set_option maxHeartbeats 4000000
namespace K02
open PySem PySem.Spec PyProof.Rows L2 Mi
/-! ### the mathematics -/
def Bytes (bs : List Int) : Prop := ∀ b ∈ bs, 0 ≤ b ∧ b < 256
theorem Bytes.at {bs : List Int} (h : Bytes bs) {i : Nat} {b : Int} (e : bs[i]? = some b) : 0 ≤ b ∧ b < 256 := h b (List.mem_of_getElem? e)
theorem sum_take {bs : List Int} {i : Nat} {b : Int} (h : bs[i]? = some b) : (bs.take (i + 1)).sum = (bs.take i).sum + b := by
  rw [List.take_add_one, h, Option.toList_some, List.sum_append]
  simp
def placed : Int → List Int → Int
  | _, [] => 0
  | k, b :: bs => k * b + placed (k + 1) bs
theorem placed_snoc : ∀ (bs : List Int) (k b : Int), placed k (bs ++ [b]) = placed k bs + (k + bs.length) * b
  | [], k, b => by simp [placed]
  | x :: bs, k, b => by
    simp only [List.cons_append, placed, placed_snoc bs (k + 1) b, List.length_cons]
    have : k + 1 + (bs.length : Int) = k + ((bs.length + 1 : Nat) : Int) := by omega
    rw [this]
    omega
theorem placed_take {bs : List Int} {i : Nat} {b : Int} (h : bs[i]? = some b) : placed 1 (bs.take (i + 1)) = placed 1 (bs.take i) + ((i : Int) + 1) * b := by
  have hi := (List.getElem?_eq_some_iff.mp h).1
  rw [List.take_add_one, h, Option.toList_some, placed_snoc, List.length_take, Nat.min_eq_left (Nat.le_of_lt hi)]
  have : (1 : Int) + (i : Int) = (i : Int) + 1 := by omega
  rw [this]
def mixed (a : Int) (bs : List Int) : Int := bs.foldl (fun a b => (a * 33 + b) % 65536) a
theorem mixed_take {bs : List Int} {i : Nat} {b : Int} {a : Int} (h : bs[i]? = some b) : mixed a (bs.take (i + 1)) = (mixed a (bs.take i) * 33 + b) % 65536 := by
  unfold mixed
  rw [List.take_add_one, h, Option.toList_some, List.foldl_append]
  rfl
theorem mixed_in (bs : List Int) {a : Int} (h : 0 ≤ a ∧ a < 65536) : 0 ≤ mixed a bs ∧ mixed a bs < 65536 := by
  unfold mixed
  induction bs generalizing a with
  | nil => exact h
  | cons b bs ih => exact ih ⟨Int.emod_nonneg _ (by omega), Int.emod_lt_of_pos _ (by omega)⟩
abbrev bt (bs : List Int) : D := .tup (bs.map D.int)
/-! ### the law's own adding -/
theorem l_plain (bs : List Int) (M : MH) : m_law_plain [bt bs] M = .ok (.int (bs.sum % 256)) M := by
  obtain ⟨e2, M2, h1, h2⟩ := forGo_inv (g := gNam 2) (b := p_law_plain_L0) (fun i e M1 => M1 = M ∧ ∃ o, e = [some (bt bs), some (.int ((bs.take i).sum % 256)), o]) (bs.map D.int) 0 [some (bt bs), some (.int 0), none] M ⟨rfl, none, rfl⟩ fun i d e M1 hd hi => by
    obtain ⟨rfl, o, rfl⟩ := hi
    obtain ⟨b, hb, rfl⟩ := map_int_get hd
    refine ⟨_, _, _, rfl, .inl ?_, rfl, some (.int b), rfl⟩
    simp [p_law_plain_L0, addD, modD, int2, sum_take hb, mFn, bCons, bNil, cRet, cAsg, cIf, cErr, cFor, mVar, mC, m1, m2, mN, aNil, aCons, mCall, callM, picks, pick, mAnd, mOr, mAndT, mOrT, mNotT, mB, mTru, mIf, mItems, itemsD, mI, truD, notD, eqD, neD, likeD, isStr, flat, flats, cmpD, isiD, tyName, gNam, gTupD, gsCons, gsNil, lim_n]
  obtain ⟨rfl, o, rfl⟩ := h2
  simp [m_law_plain_eq, b_law_plain, h1, mFn, bCons, bNil, cRet, cAsg, cIf, cErr, cFor, mVar, mC, m1, m2, mN, aNil, aCons, mCall, callM, picks, pick, mAnd, mOr, mAndT, mOrT, mNotT, mB, mTru, mIf, mItems, itemsD, mI, truD, notD, eqD, neD, likeD, isStr, flat, flats, cmpD, isiD, tyName, gNam, gTupD, gsCons, gsNil, lim_n]
theorem l_mixed {bs : List Int} (hb : Bytes bs) (M : MH) : m_law_mixed [bt bs] M = .ok (.int (mixed 5381 bs)) M := by
  obtain ⟨e2, M2, h1, h2⟩ := forGo_inv (g := gNam 2) (b := p_law_mixed_L0) (fun i e M1 => M1 = M ∧ ∃ o, e = [some (bt bs), some (.int (mixed 5381 (bs.take i))), o]) (bs.map D.int) 0 [some (bt bs), some (.int 5381), none] M ⟨rfl, none, rfl⟩ fun i d e M1 hd hi => by
    obtain ⟨rfl, o, rfl⟩ := hi
    obtain ⟨b, hb, rfl⟩ := map_int_get hd
    have hm := mixed_in (bs.take (0 + i)) (a := 5381) (by decide)
    have lg : (mixed 5381 (bs.take (0 + i))).natAbs.log2 < 17 := lg_of (by omega) (by decide)
    have g : Nat.log2 33 + (mixed 5381 (bs.take (0 + i))).natAbs.log2 < 1000000 := by
      have : Nat.log2 33 < 7 := lg_of (by decide) (by decide)
      omega
    refine ⟨_, _, _, rfl, .inl ?_, rfl, some (.int b), rfl⟩
    rw [show 0 + i + 1 = (0 + i) + 1 by rfl, mixed_take (i := 0 + i) (by simpa using hb)]
    simp only [Nat.zero_add] at g ⊢
    simp [p_law_mixed_L0, addD, modD, mulD, shlD, int2, g, mFn, bCons, bNil, cRet, cAsg, cIf, cErr, cFor, mVar, mC, m1, m2, mN, aNil, aCons, mCall, callM, picks, pick, mAnd, mOr, mAndT, mOrT, mNotT, mB, mTru, mIf, mItems, itemsD, mI, truD, notD, eqD, neD, likeD, isStr, flat, flats, cmpD, isiD, tyName, gNam, gTupD, gsCons, gsNil, lim_n]
    rw [Int.mul_comm]
  obtain ⟨rfl, o, rfl⟩ := h2
  simp [m_law_mixed_eq, b_law_mixed, h1, mFn, bCons, bNil, cRet, cAsg, cIf, cErr, cFor, mVar, mC, m1, m2, mN, aNil, aCons, mCall, callM, picks, pick, mAnd, mOr, mAndT, mOrT, mNotT, mB, mTru, mIf, mItems, itemsD, mI, truD, notD, eqD, neD, likeD, isStr, flat, flats, cmpD, isiD, tyName, gNam, gTupD, gsCons, gsNil, lim_n]
theorem l_placed0 (bs : List Int) {j : Nat} {c : Int} (hj : bs[j]? = some c) (k : Nat) (a : Int) (o : Option D) (M : MH) : ∃ o', forGo (gNam 3) p_law_placed_L0 (rangeL 0 k) [some (bt bs), some (.int a), some (.int j), o] M = .nx [some (bt bs), some (.int (a + k * c)), some (.int j), o'] M := by
  obtain ⟨e2, M2, h1, h2⟩ := forGo_inv (g := gNam 3) (b := p_law_placed_L0) (fun i e M1 => M1 = M ∧ ∃ o, e = [some (bt bs), some (.int (a + i * c)), some (.int j), o]) (rangeL 0 k) 0 [some (bt bs), some (.int a), some (.int j), o] M ⟨rfl, o, by simp⟩ fun i d e M1 hd hi => by
    obtain ⟨rfl, o, rfl⟩ := hi
    obtain ⟨_, rfl⟩ := rangeL_get hd
    refine ⟨_, _, _, rfl, .inl ?_, rfl, some (.int (0 + i)), rfl⟩
    have e1 : atI (bs.map D.int) (j : Int) = some (.int c) := atI_at (by rw [List.getElem?_map, hj]; rfl)
    simp [p_law_placed_L0, addD, ixD, e1, mFn, bCons, bNil, cRet, cAsg, cIf, cErr, cFor, mVar, mC, m1, m2, mN, aNil, aCons, mCall, callM, picks, pick, mAnd, mOr, mAndT, mOrT, mNotT, mB, mTru, mIf, mItems, itemsD, mI, truD, notD, eqD, neD, likeD, isStr, flat, flats, cmpD, isiD, tyName, gNam, gTupD, gsCons, gsNil, lim_n]
    rw [Int.add_mul]
    omega
  obtain ⟨rfl, o', rfl⟩ := h2
  rw [rangeL_len, Nat.zero_add] at h1
  exact ⟨o', h1⟩
theorem l_placed {bs : List Int} (hl : bs.length < 1000) (M : MH) : m_law_placed [bt bs] M = .ok (.int (placed 1 bs % 65521)) M := by
  obtain ⟨e2, M2, h1, h2⟩ := forGo_inv (g := gNam 2) (b := p_law_placed_L1) (fun i e M1 => M1 = M ∧ ∃ o o2, e = [some (bt bs), some (.int (placed 1 (bs.take i))), o, o2]) (rangeL 0 bs.length) 0 [some (bt bs), some (.int 0), none, none] M ⟨rfl, none, none, rfl⟩ fun i d e M1 hd hi => by
    obtain ⟨rfl, o, o2, rfl⟩ := hi
    obtain ⟨hi, rfl⟩ := rangeL_get hd
    have hb : bs[i]? = some bs[i] := List.getElem?_eq_getElem hi
    obtain ⟨o', h3⟩ := l_placed0 bs hb (i + 1) (placed 1 (bs.take i)) o2 M1
    refine ⟨_, _, _, rfl, .inl ?_, rfl, some (.int (0 + i)), o', rfl⟩
    have e1 : rng1D [.int ((i : Int) + 1)] M1 = .ok (rangeL 0 (i + 1)) M1 := rng1_n (by omega) (by omega)
    rw [show 0 + i + 1 = i + 1 by omega, placed_take hb]
    have e3 : (((i + 1 : Nat) : Int)) * bs[i] = ((i : Int) + 1) * bs[i] := by rw [show ((i + 1 : Nat) : Int) = (i : Int) + 1 by omega]
    rw [e3] at h3
    simp only [Nat.zero_add, Int.zero_add] at h3 ⊢
    simp [p_law_placed_L1, addD, e1, h3, mFn, bCons, bNil, cRet, cAsg, cIf, cErr, cFor, mVar, mC, m1, m2, mN, aNil, aCons, mCall, callM, picks, pick, mAnd, mOr, mAndT, mOrT, mNotT, mB, mTru, mIf, mItems, itemsD, mI, truD, notD, eqD, neD, likeD, isStr, flat, flats, cmpD, isiD, tyName, gNam, gTupD, gsCons, gsNil, lim_n]
  obtain ⟨rfl, o, o2, rfl⟩ := h2
  rw [rangeL_len, Nat.zero_add, List.take_length] at h1
  have e1 : rng1D [.int (bs.length : Int)] M2 = .ok (rangeL 0 bs.length) M2 := rng1_n rfl (by omega)
  simp [m_law_placed_eq, b_law_placed, lenD, e1, h1, modD, int2, mFn, bCons, bNil, cRet, cAsg, cIf, cErr, cFor, mVar, mC, m1, m2, mN, aNil, aCons, mCall, callM, picks, pick, mAnd, mOr, mAndT, mOrT, mNotT, mB, mTru, mIf, mItems, itemsD, mI, truD, notD, eqD, neD, likeD, isStr, flat, flats, cmpD, isiD, tyName, gNam, gTupD, gsCons, gsNil, lim_n]
/-! ### the program's -/
theorem enumL_map : ∀ (bs : List Int) (k : Int), enumL k (bs.map D.int) = (List.range bs.length).map fun (i : Nat) => .tup [.int (k + i), .int (bs.getD i 0)]
  | [], k => rfl
  | b :: bs, k => by
    rw [List.map_cons, enumL, enumL_map bs (k + 1), List.length_cons, List.range_succ_eq_map, List.map_cons, List.map_map]
    refine congr2 (f := List.cons) (by simp) (List.map_congr_left fun i _ => ?_)
    have : k + 1 + (i : Int) = k + ((i + 1 : Nat) : Int) := by omega
    simp [this]
theorem placed_sum : ∀ (bs : List Int) (k : Int), ((List.range bs.length).map fun (i : Nat) => (k + i) * bs.getD i 0).sum = placed k bs
  | [], k => rfl
  | b :: bs, k => by
    rw [List.length_cons, List.range_succ_eq_map, List.map_cons, List.map_map, List.sum_cons, placed, ← placed_sum bs (k + 1)]
    refine congr2 (f := fun (a b : Int) => a + b) (by simp) (congrArg List.sum (List.map_congr_left fun i _ => ?_))
    have : k + 1 + (i : Int) = k + ((i + 1 : Nat) : Int) := by omega
    simp [this]
theorem sum_by_plain (bs : List Int) (M : MH) : m_sum_by [.str "plain", bt bs] M = .ok (.int (bs.sum % 256)) M := by
  have e : deq (.str "plain") (.str "plain") = true := by decide +kernel
  simp [m_sum_by_eq, b_sum_by, e, sumD, intsD_map, modD, int2, mFn, bCons, bNil, cRet, cAsg, cIf, cErr, cFor, mVar, mC, m1, m2, mN, aNil, aCons, mCall, callM, picks, pick, mAnd, mOr, mAndT, mOrT, mNotT, mB, mTru, mIf, mItems, itemsD, mI, truD, notD, eqD, neD, likeD, isStr, flat, flats, cmpD, isiD, tyName, gNam, gTupD, gsCons, gsNil, lim_n]
theorem e_pp : deq (.str "plain") (.str "plain") = true := by decide +kernel
theorem e_dp : deq (.str "placed") (.str "plain") = false := by decide +kernel
theorem e_dd : deq (.str "placed") (.str "placed") = true := by decide +kernel
theorem e_mp : deq (.str "mixed") (.str "plain") = false := by decide +kernel
theorem e_md : deq (.str "mixed") (.str "placed") = false := by decide +kernel
theorem e_bs : deq (.str "big") (.str "small") = false := by decide +kernel
def pl (bs : List Int) : List Int := (List.range bs.length).map fun (i : Nat) => (1 + (i : Int)) * bs.getD i 0
theorem pl_sum (bs : List Int) : (pl bs).sum = placed 1 bs := placed_sum bs 1
theorem sum_by_placed {bs : List Int} (hb : Bytes bs) (hl : bs.length < 1000) (M : MH) : m_sum_by [.str "placed", bt bs] M = .ok (.int (placed 1 bs % 65521)) M := by
  have lc : lcGo (lcOne (gTupD 2 (gsCons (gNam 2) (gsCons (gNam 3) gsNil))) mYes p_sum_by_C0 (wipeE [some (.str "placed"), some (bt bs), none, none] [2, 3])) (enumL 1 (bs.map D.int)) M = .ok ((pl bs).map D.int) M := by
    rw [enumL_map]
    rw [lcGo_all (h := fun d => match d with | .tup [.int i, .int b] => .int (i * b) | d => d) fun x hx => ?_]
    · unfold pl
      rw [List.map_map, List.map_map]
      rfl
    · obtain ⟨i, h1, rfl⟩ := List.mem_map.mp hx
      have hi := List.mem_range.mp h1
      have hm : bs.getD i 0 ∈ bs := by
        rw [List.getD_eq_getElem?_getD, List.getElem?_eq_getElem hi]
        exact List.getElem_mem hi
      have hz := hb _ hm
      have g : (1 + (i : Int)).natAbs.log2 + (bs.getD i 0).natAbs.log2 < 1000000 := by
        have g1 : (1 + (i : Int)).natAbs.log2 < 10 := lg_of (by omega) (by decide)
        have g2 : (bs.getD i 0).natAbs.log2 < 8 := lg_of (by omega) (by decide)
        omega
      generalize hzz : bs.getD i 0 = z at g hz
      simp [lcOne, wipeE, gTupD, gsCons, gsNil, gNam, mYes, noX, p_sum_by_C0, m2, mVar, mulD, g]
  have hlen : (enumL 1 (bs.map D.int)).length < lim := by rw [enumL_len, List.length_map]; show bs.length < 1000000; omega
  simp [m_sum_by_eq, b_sum_by, e_dp, e_dd, mLc, enumD, hlen, lc, sumD, intsD_map, pl_sum, modD, int2, mFn, bCons, bNil, cRet, cAsg, cIf, cErr, cFor, mVar, mC, m1, m2, mN, aNil, aCons, mCall, callM, picks, pick, mAnd, mOr, mAndT, mOrT, mNotT, mB, mTru, mIf, mItems, itemsD, mI, truD, notD, eqD, neD, likeD, isStr, flat, flats, cmpD, isiD, tyName, gNam, gTupD, gsCons, gsNil, lim_n]
theorem mixed_on_ok {bs : List Int} (hb : Bytes bs) (M : MH) : m_mixed_on [.int 5381, bt bs] M = .ok (.int (mixed 5381 bs)) M := by
  obtain ⟨e2, M2, h1, h2⟩ := forGo_inv (g := gNam 3) (b := p_mixed_on_L0) (fun i e M1 => M1 = M ∧ ∃ o, e = [some (.int 5381), some (bt bs), some (.int (mixed 5381 (bs.take i))), o]) (bs.map D.int) 0 [some (.int 5381), some (bt bs), some (.int 5381), none] M ⟨rfl, none, rfl⟩ fun i d e M1 hd hi => by
    obtain ⟨rfl, o, rfl⟩ := hi
    obtain ⟨b, hb, rfl⟩ := map_int_get hd
    have hm := mixed_in (bs.take (0 + i)) (a := 5381) (by decide)
    have lg : (mixed 5381 (bs.take (0 + i))).natAbs.log2 < 17 := lg_of (by omega) (by decide)
    have g : (mixed 5381 (bs.take (0 + i))).natAbs.log2 + Nat.log2 33 < 1000000 := by
      have : Nat.log2 33 < 7 := lg_of (by decide) (by decide)
      omega
    refine ⟨_, _, _, rfl, .inl ?_, rfl, some (.int b), rfl⟩
    rw [show 0 + i + 1 = (0 + i) + 1 by rfl, mixed_take (i := 0 + i) (by simpa using hb)]
    simp only [Nat.zero_add] at g ⊢
    simp [p_mixed_on_L0, addD, modD, mulD, int2, g, mFn, bCons, bNil, cRet, cAsg, cIf, cErr, cFor, mVar, mC, m1, m2, mN, aNil, aCons, mCall, callM, picks, pick, mAnd, mOr, mAndT, mOrT, mNotT, mB, mTru, mIf, mItems, itemsD, mI, truD, notD, eqD, neD, likeD, isStr, flat, flats, cmpD, isiD, tyName, gNam, gTupD, gsCons, gsNil, lim_n]
  obtain ⟨rfl, o, rfl⟩ := h2
  simp [m_mixed_on_eq, b_mixed_on, h1, mFn, bCons, bNil, cRet, cAsg, cIf, cErr, cFor, mVar, mC, m1, m2, mN, aNil, aCons, mCall, callM, picks, pick, mAnd, mOr, mAndT, mOrT, mNotT, mB, mTru, mIf, mItems, itemsD, mI, truD, notD, eqD, neD, likeD, isStr, flat, flats, cmpD, isiD, tyName, gNam, gTupD, gsCons, gsNil, lim_n]
theorem sum_by_mixed {bs : List Int} (hb : Bytes bs) (M : MH) : m_sum_by [.str "mixed", bt bs] M = .ok (.int (mixed 5381 bs)) M := by
  simp [m_sum_by_eq, b_sum_by, e_mp, e_md, mixed_on_ok hb, mFn, bCons, bNil, cRet, cAsg, cIf, cErr, cFor, mVar, mC, m1, m2, mN, aNil, aCons, mCall, callM, picks, pick, mAnd, mOr, mAndT, mOrT, mNotT, mB, mTru, mIf, mItems, itemsD, mI, truD, notD, eqD, neD, likeD, isStr, flat, flats, cmpD, isiD, tyName, gNam, gTupD, gsCons, gsNil, lim_n]
theorem sum_size_plain (M : MH) : m_sum_size [.str "plain"] M = .ok (.int 1) M := by simp [m_sum_size_eq, b_sum_size, tabD, tbl_SUM_SIZES, mFn, bCons, bNil, cRet, cAsg, cIf, cErr, cFor, mVar, mC, m1, m2, mN, aNil, aCons, mCall, callM, picks, pick, mAnd, mOr, mAndT, mOrT, mNotT, mB, mTru, mIf, mItems, itemsD, mI, truD, notD, eqD, neD, likeD, isStr, flat, flats, cmpD, isiD, tyName, gNam, gTupD, gsCons, gsNil, lim_n]
theorem sum_size_placed (M : MH) : m_sum_size [.str "placed"] M = .ok (.int 2) M := by
  have e : tbl_SUM_SIZES.find? (fun q => decide (q.1 = ("placed" : Str))) = some (("placed" : Str), D.int 2) := by rfl
  simp [m_sum_size_eq, b_sum_size, tabD, e, mFn, bCons, bNil, cRet, cAsg, cIf, cErr, cFor, mVar, mC, m1, m2, mN, aNil, aCons, mCall, callM, picks, pick, mAnd, mOr, mAndT, mOrT, mNotT, mB, mTru, mIf, mItems, itemsD, mI, truD, notD, eqD, neD, likeD, isStr, flat, flats, cmpD, isiD, tyName, gNam, gTupD, gsCons, gsNil, lim_n]
theorem sum_size_mixed (M : MH) : m_sum_size [.str "mixed"] M = .ok (.int 2) M := by
  have e : tbl_SUM_SIZES.find? (fun q => decide (q.1 = ("mixed" : Str))) = some (("mixed" : Str), D.int 2) := by rfl
  simp [m_sum_size_eq, b_sum_size, tabD, e, mFn, bCons, bNil, cRet, cAsg, cIf, cErr, cFor, mVar, mC, m1, m2, mN, aNil, aCons, mCall, callM, picks, pick, mAnd, mOr, mAndT, mOrT, mNotT, mB, mTru, mIf, mItems, itemsD, mI, truD, notD, eqD, neD, likeD, isStr, flat, flats, cmpD, isiD, tyName, gNam, gTupD, gsCons, gsNil, lim_n]
theorem is_whole_s (i : Int) (M : MH) : m_is_whole [.int i] M = .ok (.bl true) M := by
  simp [m_is_whole_eq, b_is_whole, tyNames, isB, mFn, bCons, bNil, cRet, cAsg, cIf, cErr, cFor, mVar, mC, m1, m2, mN, aNil, aCons, mCall, callM, picks, pick, mAnd, mOr, mAndT, mOrT, mNotT, mB, mTru, mIf, mItems, itemsD, mI, truD, notD, eqD, neD, likeD, isStr, flat, flats, cmpD, isiD, tyName, gNam, gTupD, gsCons, gsNil, lim_n]
theorem lg1 : Nat.log2 1 = 0 := by decide +kernel
theorem lg8 : Nat.log2 8 = 3 := by decide +kernel
theorem bits_le {i : Int} {k : Nat} (h0 : 0 ≤ i) (h1 : i < 2 ^ k) : Builtin.Int.intBits i ≤ k := by
  unfold Builtin.Int.intBits
  split
  · exact Nat.zero_le _
  · rename_i h
    have hz : i.natAbs ≠ 0 := fun z => h (by simp; omega)
    have : i.natAbs.log2 < k := (Nat.log2_lt hz).mpr (by
      have : (i.natAbs : Int) < ((2 ^ k : Nat) : Int) := by
        rw [Int.natAbs_of_nonneg h0]
        simpa using h1
      exact_mod_cast this)
    omega
theorem p8 : (256 : Int) = 2 ^ 8 := by decide +kernel
theorem p16 : (65536 : Int) = 2 ^ 16 := by decide +kernel
theorem is_number1 {i : Int} (M : MH) (h0 : 0 ≤ i) (h1 : i < 256) : m_is_number [.int i, .int 1] M = .ok (.bl true) M := by
  have g : Builtin.Int.intBits i ≤ 8 := bits_le (k := 8) h0 (p8 ▸ h1)
  have g1 : ((Builtin.Int.intBits i : Nat) : Int) ≤ 8 := by omega
  have e1 : Nat.log2 1 = 0 := by decide +kernel
  simp [m_is_number_eq, b_is_number, is_whole_s, mulD, bitsD, h0, g, g1, lg8, e1, mFn, bCons, bNil, cRet, cAsg, cIf, cErr, cFor, mVar, mC, m1, m2, mN, aNil, aCons, mCall, callM, picks, pick, mAnd, mOr, mAndT, mOrT, mNotT, mB, mTru, mIf, mItems, itemsD, mI, truD, notD, eqD, neD, likeD, isStr, flat, flats, cmpD, isiD, tyName, gNam, gTupD, gsCons, gsNil, lim_n]
theorem is_number2 {i : Int} (M : MH) (h0 : 0 ≤ i) (h1 : i < 65536) : m_is_number [.int i, .int 2] M = .ok (.bl true) M := by
  have g : Builtin.Int.intBits i ≤ 16 := bits_le (k := 16) h0 (p16 ▸ h1)
  have g1 : ((Builtin.Int.intBits i : Nat) : Int) ≤ 16 := by omega
  have e1 : Nat.log2 2 = 1 := by decide +kernel
  simp [m_is_number_eq, b_is_number, is_whole_s, mulD, bitsD, h0, g, g1, lg8, e1, mFn, bCons, bNil, cRet, cAsg, cIf, cErr, cFor, mVar, mC, m1, m2, mN, aNil, aCons, mCall, callM, picks, pick, mAnd, mOr, mAndT, mOrT, mNotT, mB, mTru, mIf, mItems, itemsD, mI, truD, notD, eqD, neD, likeD, isStr, flat, flats, cmpD, isiD, tyName, gNam, gTupD, gsCons, gsNil, lim_n]
/-! bytes_of -/
theorem and255 (x : Int) (h : 0 ≤ x) : Builtin.bitAnd x 255 = x % 256 := bitAnd_m8 x
theorem r1 : rangeL 0 1 = [.int 0] := rfl
theorem r2 : rangeL 0 2 = [.int 0, .int 1] := rfl
theorem bytes_of1 {i : Int} (M : MH) (h0 : 0 ≤ i) (h1 : i < 256) : m_bytes_of [.int i, .int 1, .str "big"] M = .ok (.tup [.int i]) M := by
  have e1 : rng1D [.int 1] M = .ok [.int 0] M := rng1_n (n := 1) rfl (by decide)
  have e2 : i % 256 = i := Int.emod_eq_of_lt h0 h1
  simp [m_bytes_of_eq, b_bytes_of, is_number1 M h0 h1, mLc, e1, lcGo, lcOne, mYes, noX, wipeE, p_bytes_of_C0, shrD, mulD, andD, int2, and255, h0, e2, tupOfD, e_bs, negD, revD, lg8, lg1, mFn, bCons, bNil, cRet, cAsg, cIf, cErr, cFor, mVar, mC, m1, m2, mN, aNil, aCons, mCall, callM, picks, pick, mAnd, mOr, mAndT, mOrT, mNotT, mB, mTru, mIf, mItems, itemsD, mI, truD, notD, eqD, neD, likeD, isStr, flat, flats, cmpD, isiD, tyName, gNam, gTupD, gsCons, gsNil, lim_n]
theorem bytes_of2 {i : Int} (M : MH) (h0 : 0 ≤ i) (h1 : i < 65536) : m_bytes_of [.int i, .int 2, .str "big"] M = .ok (.tup [.int (i / 256), .int (i % 256)]) M := by
  have e1 : rng1D [.int 2] M = .ok [.int 0, .int 1] M := rng1_n (n := 2) rfl (by decide)
  have e3 : 0 ≤ i / 256 := Int.ediv_nonneg h0 (by decide)
  have e2 : i / 256 % 256 = i / 256 := Int.emod_eq_of_lt e3 (by omega)
  simp [m_bytes_of_eq, b_bytes_of, is_number2 M h0 h1, mLc, e1, lcGo, lcOne, mYes, noX, wipeE, p_bytes_of_C0, shrD, mulD, andD, int2, and255, h0, e2, e3, tupOfD, e_bs, negD, revD, lg8, lg1, mFn, bCons, bNil, cRet, cAsg, cIf, cErr, cFor, mVar, mC, m1, m2, mN, aNil, aCons, mCall, callM, picks, pick, mAnd, mOr, mAndT, mOrT, mNotT, mB, mTru, mIf, mItems, itemsD, mI, truD, notD, eqD, neD, likeD, isStr, flat, flats, cmpD, isiD, tyName, gNam, gTupD, gsCons, gsNil, lim_n]
theorem sum_bytes_plain {bs : List Int} (M : MH) : m_sum_bytes [.str "plain", bt bs] M = .ok (.tup [.int (bs.sum % 256)]) M := by
  have h0 : 0 ≤ bs.sum % 256 := Int.emod_nonneg _ (by decide)
  have h1 : bs.sum % 256 < 256 := Int.emod_lt_of_pos _ (by decide)
  simp [m_sum_bytes_eq, b_sum_bytes, sum_by_plain, sum_size_plain, bytes_of1 M h0 h1, mFn, bCons, bNil, cRet, cAsg, cIf, cErr, cFor, mVar, mC, m1, m2, mN, aNil, aCons, mCall, callM, picks, pick, mAnd, mOr, mAndT, mOrT, mNotT, mB, mTru, mIf, mItems, itemsD, mI, truD, notD, eqD, neD, likeD, isStr, flat, flats, cmpD, isiD, tyName, gNam, gTupD, gsCons, gsNil, lim_n]
theorem sum_bytes_placed {bs : List Int} (hb : Bytes bs) (hl : bs.length < 1000) (M : MH) : m_sum_bytes [.str "placed", bt bs] M = .ok (.tup [.int (placed 1 bs % 65521 / 256), .int (placed 1 bs % 65521 % 256)]) M := by
  have h0 : 0 ≤ placed 1 bs % 65521 := Int.emod_nonneg _ (by decide)
  have h1 : placed 1 bs % 65521 < 65521 := Int.emod_lt_of_pos _ (by decide)
  have h2 : placed 1 bs % 65521 < 65536 := by omega
  simp [m_sum_bytes_eq, b_sum_bytes, sum_by_placed hb hl, sum_size_placed, bytes_of2 M h0 h2, mFn, bCons, bNil, cRet, cAsg, cIf, cErr, cFor, mVar, mC, m1, m2, mN, aNil, aCons, mCall, callM, picks, pick, mAnd, mOr, mAndT, mOrT, mNotT, mB, mTru, mIf, mItems, itemsD, mI, truD, notD, eqD, neD, likeD, isStr, flat, flats, cmpD, isiD, tyName, gNam, gTupD, gsCons, gsNil, lim_n]
theorem sum_bytes_mixed {bs : List Int} (hb : Bytes bs) (M : MH) : m_sum_bytes [.str "mixed", bt bs] M = .ok (.tup [.int (mixed 5381 bs / 256), .int (mixed 5381 bs % 256)]) M := by
  have h := mixed_in bs (a := 5381) (by decide)
  simp [m_sum_bytes_eq, b_sum_bytes, sum_by_mixed hb, sum_size_mixed, bytes_of2 M h.1 h.2, mFn, bCons, bNil, cRet, cAsg, cIf, cErr, cFor, mVar, mC, m1, m2, mN, aNil, aCons, mCall, callM, picks, pick, mAnd, mOr, mAndT, mOrT, mNotT, mB, mTru, mIf, mItems, itemsD, mI, truD, notD, eqD, neD, likeD, isStr, flat, flats, cmpD, isiD, tyName, gNam, gTupD, gsCons, gsNil, lim_n]
theorem shownInts : ∀ {bs : List Int}, Bytes bs → PyData.showableAll (bs.map PyData.int) = true ∧ ((PyData.shownAll (bs.map PyData.int)).map (·.length)).sum ≤ 4 * bs.length ∧ (PyData.shownAll (bs.map PyData.int)).length = bs.length
  | [], _ => ⟨rfl, Nat.le_refl _, rfl⟩
  | b :: bs, h => by
    obtain ⟨h1, h2, h3⟩ := shownInts (bs := bs) fun x hx => h x (List.mem_cons_of_mem _ hx)
    have hb := h b (List.mem_cons_self ..)
    have g : b.natAbs.log2 < 1920 := Nat.lt_of_lt_of_le (lg_of (k := 8) (by omega) (by decide)) (by decide)
    have l : (PyData.shown (.int b)).length ≤ 4 := by
      show (Str.ofString (toString b)).length ≤ 4
      rw [PySem.ofString_length]
      exact int_text_length_le10 (k := 3) (by decide) (by omega)
    refine ⟨?_, ?_, ?_⟩
    · simp [PyData.showableAll, PyData.showable, h1, g]
    · simp only [List.map_cons, PyData.shownAll, List.sum_cons, List.length_cons]
      omega
    · simp only [List.map_cons, PyData.shownAll, List.length_cons, h3]
theorem shows_bt {bs : List Int} (hb : Bytes bs) (hl : bs.length < 1000) : shows (bt bs) = true := by
  obtain ⟨h1, h2, h3⟩ := shownInts hb
  have e : py (bt bs) = .tuple (bs.map PyData.int) := by
    show PyData.tuple (pys (bs.map D.int)) = _
    rw [pys_ints]
  unfold shows
  rw [e]
  have f : flat (bt bs) 60 = true := by
    show (decide (0 < 60) && flats (bs.map D.int) 59) = true
    rw [flats_ints]
    rfl
  have l := tupleText_len_le (PyData.shownAll (bs.map PyData.int))
  have l2 : (PyData.shown (.tuple (bs.map PyData.int))).length ≤ lim := by
    show (tupleText (PyData.shownAll (bs.map PyData.int))).length ≤ 1000000
    omega
  rw [f]
  simp [PyData.showable, h1, l2]
theorem deq_refl_int (i : Int) : deq (.int i) (.int i) = true := by simp [deq, py, PyData.eqv]
theorem deq_ints (is : List Int) : deq (.tup (is.map .int)) (.tup (is.map .int)) = true := by
  have h : ∀ is : List Int, PyData.eqvAll (is.map PyData.int) (is.map PyData.int) = true := fun is => by
    induction is with
    | nil => rfl
    | cons i is ih => simp [PyData.eqvAll, PyData.eqv, ih]
  show PyData.eqv (.tuple (pys (is.map D.int))) (.tuple (pys (is.map D.int))) = true
  rw [pys_ints]
  simp [PyData.eqv, h]
theorem deq1 (i : Int) : deq (.tup [.int i]) (.tup [.int i]) = true := deq_ints [i]
theorem deq2 (i j : Int) : deq (.tup [.int i, .int j]) (.tup [.int i, .int j]) = true := deq_ints [i, j]
theorem step_plain {bs : List Int} (k due : D) (o3 o4 o5 : Option D) (M : MH) : p_law_right_L0 [some (bt bs), some k, some due, some (.str "plain"), some (.int (bs.sum % 256)), o5] M = .nx [some (bt bs), some k, some due, some (.str "plain"), some (.int (bs.sum % 256)), some (.tup [.int (bs.sum % 256)])] M := by
  simp [p_law_right_L0, e_pp, sum_by_plain, sum_bytes_plain, sum_size_plain, tupD, deq1, deq_refl_int, lenD, isB, tyNames, mFn, bCons, bNil, cRet, cAsg, cIf, cErr, cFor, mVar, mC, m1, m2, mN, aNil, aCons, mCall, callM, picks, pick, mAnd, mOr, mAndT, mOrT, mNotT, mB, mTru, mIf, mItems, itemsD, mI, truD, notD, eqD, neD, likeD, isStr, flat, flats, cmpD, isiD, tyName, gNam, gTupD, gsCons, gsNil, lim_n]
theorem step_placed {bs : List Int} (hb : Bytes bs) (hl : bs.length < 1000) (k due : D) (o5 : Option D) (M : MH) : p_law_right_L0 [some (bt bs), some k, some due, some (.str "placed"), some (.int (placed 1 bs % 65521)), o5] M = .nx [some (bt bs), some k, some due, some (.str "placed"), some (.int (placed 1 bs % 65521)), some (.tup [.int (placed 1 bs % 65521 / 256), .int (placed 1 bs % 65521 % 256)])] M := by
  have e1 := sum_by_placed hb hl
  have e2 := sum_bytes_placed hb hl
  generalize placed 1 bs % 65521 = z at e1 e2 ⊢
  have g : Nat.log2 256 < 9000 := Nat.lt_of_lt_of_le (lg_of (k := 9) (by decide) (by decide)) (by decide)
  simp [p_law_right_L0, e_dp, e1, e2, sum_size_placed, tupD, deq2, deq_refl_int, lenD, isB, tyNames, fdivD, modD, int2, g, mFn, bCons, bNil, cRet, cAsg, cIf, cErr, cFor, mVar, mC, m1, m2, mN, aNil, aCons, mCall, callM, picks, pick, mAnd, mOr, mAndT, mOrT, mNotT, mB, mTru, mIf, mItems, itemsD, mI, truD, notD, eqD, neD, likeD, isStr, flat, flats, cmpD, isiD, tyName, gNam, gTupD, gsCons, gsNil, lim_n]
theorem step_mixed {bs : List Int} (hb : Bytes bs) (k due : D) (o5 : Option D) (M : MH) : p_law_right_L0 [some (bt bs), some k, some due, some (.str "mixed"), some (.int (mixed 5381 bs)), o5] M = .nx [some (bt bs), some k, some due, some (.str "mixed"), some (.int (mixed 5381 bs)), some (.tup [.int (mixed 5381 bs / 256), .int (mixed 5381 bs % 256)])] M := by
  have e1 := sum_by_mixed hb
  have e2 := sum_bytes_mixed hb
  generalize mixed 5381 bs = z at e1 e2 ⊢
  have g : Nat.log2 256 < 9000 := Nat.lt_of_lt_of_le (lg_of (k := 9) (by decide) (by decide)) (by decide)
  simp [p_law_right_L0, e_mp, e1, e2, sum_size_mixed, tupD, deq2, deq_refl_int, lenD, isB, tyNames, fdivD, modD, int2, g, mFn, bCons, bNil, cRet, cAsg, cIf, cErr, cFor, mVar, mC, m1, m2, mN, aNil, aCons, mCall, callM, picks, pick, mAnd, mOr, mAndT, mOrT, mNotT, mB, mTru, mIf, mItems, itemsD, mI, truD, notD, eqD, neD, likeD, isStr, flat, flats, cmpD, isiD, tyName, gNam, gTupD, gsCons, gsNil, lim_n]
theorem deq_str (x : Str) : deq (.str x) (.str x) = true := by simp [deq, py, PyData.eqv]
theorem right {bs : List Int} (hb : Bytes bs) (hl : bs.length < 1000) (M : MH) : m_law_right [bt bs] M = .ok (.bl true) M := by
  have sh := shows_bt hb hl
  have rp : reprD [bt bs] M = .ok (.str (PyData.shown (py (bt bs)))) M := by
    unfold reprD
    simp only
    rw [if_pos (by rw [sh]; rfl)]
  have e1 := l_plain bs M
  have e2 := l_placed hl M
  have e3 := l_mixed hb M
  have s1 := step_plain (bs := bs) (.str (PyData.shown (py (bt bs)))) (.lst [.tup [.str "plain", .int (bs.sum % 256)], .tup [.str "placed", .int (placed 1 bs % 65521)], .tup [.str "mixed", .int (mixed 5381 bs)]]) none none none M
  have s2 := step_placed hb hl (.str (PyData.shown (py (bt bs)))) (.lst [.tup [.str "plain", .int (bs.sum % 256)], .tup [.str "placed", .int (placed 1 bs % 65521)], .tup [.str "mixed", .int (mixed 5381 bs)]]) (some (.tup [.int (bs.sum % 256)])) M
  have s3 := step_mixed hb (.str (PyData.shown (py (bt bs)))) (.lst [.tup [.str "plain", .int (bs.sum % 256)], .tup [.str "placed", .int (placed 1 bs % 65521)], .tup [.str "mixed", .int (mixed 5381 bs)]]) (some (.tup [.int (placed 1 bs % 65521 / 256), .int (placed 1 bs % 65521 % 256)])) M
  generalize PyData.shown (py (bt bs)) = tx at rp s1 s2 s3
  generalize bs.sum % 256 = z1 at e1 s1 s2 s3
  generalize placed 1 bs % 65521 = z2 at e2 s1 s2 s3
  generalize mixed 5381 bs = z3 at e3 s1 s2 s3
  generalize bt bs = B at rp e1 e2 e3 s1 s2 s3 ⊢
  simp [m_law_right_eq, b_law_right, rp, e1, e2, e3, lstD, tupD, forGo, s1, s2, s3, deq_str, mFn, bCons, bNil, cRet, cAsg, cIf, cErr, cFor, mVar, mC, m1, m2, mN, aNil, aCons, mCall, callM, picks, pick, mAnd, mOr, mAndT, mOrT, mNotT, mB, mTru, mIf, mItems, itemsD, mI, truD, notD, eqD, neD, likeD, isStr, flat, flats, cmpD, isiD, tyName, gNam, gTupD, gsCons, gsNil, lim_n]
end K02

end

section
set_option maxHeartbeats 4000000
namespace K02
open PySem PySem.Spec PyProof.Rows L2 Mi
theorem mul_ok {i j : Int} {M : MH} {a b : Nat} (h1 : i.natAbs < 2 ^ a) (h2 : j.natAbs < 2 ^ b) (ha : 0 < a) (hb : 0 < b) (h : a + b < 1000000) : mulD (.int i) (.int j) M = .ok (.int (i * j)) M := by
  have g1 := lg_of h1 ha
  have g2 := lg_of h2 hb
  unfold mulD
  simp only
  rw [if_pos (by omega)]
theorem left_step {c l s : Int} {i : Nat} (hi : i < 40) (h0 : 0 ≤ l) (h1 : l < 2 ^ (60 + 32 * i)) (o : Option D) (M : MH) : ∃ l' s' : Int, p_law_left_L0 [some (.int c), some (.int l), some (.int s), some (.int (0 + i))] M = .nx [some (.int c), some (.int l'), some (.int s'), some (.int (0 + i))] M ∧ 0 ≤ l' ∧ l' < 2 ^ (60 + 32 * (i + 1)) := by
  have a0 : 0 ≤ s % 2147483629 := Int.emod_nonneg _ (by decide)
  have a1 : s % 2147483629 < 2147483629 := Int.emod_lt_of_pos _ (by decide)
  generalize ha : s % 2147483629 = a at a0 a1
  have p32 : (2 : Nat) ^ 32 = 4294967296 := by decide +kernel
  have p17 : (2 : Nat) ^ 17 = 131072 := by decide +kernel
  have m1' : mulD (.int (a + 30011)) (.int 48271) M = .ok (.int ((a + 30011) * 48271)) M := mul_ok (a := 32) (b := 17) (by omega) (by decide) (by decide) (by decide) (by decide)
  have b0 : 0 ≤ (a + 30011) * 48271 % 2147483629 := Int.emod_nonneg _ (by decide)
  have b1 : (a + 30011) * 48271 % 2147483629 < 2147483629 := Int.emod_lt_of_pos _ (by decide)
  generalize hb : (a + 30011) * 48271 % 2147483629 = b at b0 b1
  have m2' : mulD (.int b) (.int 39373) M = .ok (.int (b * 39373)) M := mul_ok (a := 32) (b := 17) (by omega) (by decide) (by decide) (by decide) (by decide)
  have c0 : 0 ≤ b * 39373 % 2147483647 := Int.emod_nonneg _ (by decide)
  have c1 : b * 39373 % 2147483647 < 2147483647 := Int.emod_lt_of_pos _ (by decide)
  generalize hc : b * 39373 % 2147483647 = e at c0 c1
  have e2 : (2 : Int) ^ (60 + 32 * i) = ((2 ^ (60 + 32 * i) : Nat) : Int) := by simp
  have hx : l.natAbs < 2 ^ (60 + 32 * i) := by
    rw [e2] at h1
    omega
  have m3' : mulD (.int l) (.int 2147483629) M = .ok (.int (l * 2147483629)) M := mul_ok (a := 60 + 32 * i) (b := 32) hx (by rw [p32]; decide) (by omega) (by decide) (by omega)
  refine ⟨l * 2147483629 + (e + (0 + i)), e + (0 + i), ?_, by omega, ?_⟩
  · simp [p_law_left_L0, addD, modD, int2, ha, m1', hb, m2', hc, m3', mFn, bCons, bNil, cRet, cAsg, cIf, cErr, cFor, mVar, mC, m1, m2, mN, aNil, aCons, mCall, callM, picks, pick, mAnd, mOr, mAndT, mOrT, mNotT, mB, mTru, mIf, mItems, itemsD, mI, truD, notD, eqD, neD, likeD, isStr, flat, flats, cmpD, isiD, tyName, gNam, gTupD, gsCons, gsNil, lim_n]
  · have e3 : (2 : Int) ^ (60 + 32 * (i + 1)) = 2 ^ (60 + 32 * i) * 4294967296 := by
      rw [show 60 + 32 * (i + 1) = (60 + 32 * i) + 32 by omega, Int.pow_add]
      rw [show (2 : Int) ^ 32 = 4294967296 by decide +kernel]
    have e4 : (2 : Int) ≤ 2 ^ (60 + 32 * i) := by
      rw [e2]
      have : 2 ^ 1 ≤ 2 ^ (60 + 32 * i) := Nat.pow_le_pow_right (by decide) (by omega)
      omega
    rw [e3]
    generalize (2 : Int) ^ (60 + 32 * i) = X at h1 e4 ⊢
    omega
theorem left_big (c K : Int) (M : MH) (pe : ME) (b : MS) (pw : ∀ (env : En) (M : MH), pe env M = .ok (.int K) M) (h : ¬ (c.natAbs : Int) < K) :
    mFn 4 (bCons (cAsg (mN absD (aCons (mVar 0) (aNil))) (gNam 1)) (bCons (cIf (mB (m2 ltD (mVar 1) pe)) b (bNil)) (bCons (cRet (mN celD (aCons (mVar 1) (aNil)))) (bNil)))) [.int c] M = .ok (.ref M.length) (M ++ [.lst [.int c.natAbs]]) := by
  simp [absD, pw, h, celD, mFn, bCons, bNil, cRet, cAsg, cIf, cErr, cFor, mVar, mC, m1, m2, mN, aNil, aCons, mCall, callM, picks, pick, mAnd, mOr, mAndT, mOrT, mNotT, mB, mTru, mIf, mItems, itemsD, mI, truD, notD, eqD, neD, likeD, isStr, flat, flats, cmpD, isiD, tyName, gNam, gTupD, gsCons, gsNil, lim_n]
theorem left_small (c K l s : Int) (o : Option D) (M : MH) (pe : ME) (b : MS) (pw : ∀ (env : En) (M : MH), pe env M = .ok (.int K) M) (h : (c.natAbs : Int) < K) (hb : b [some (.int c), some (.int c.natAbs), none, none] M = .nx [some (.int c), some (.int l), some (.int s), o] M) :
    mFn 4 (bCons (cAsg (mN absD (aCons (mVar 0) (aNil))) (gNam 1)) (bCons (cIf (mB (m2 ltD (mVar 1) pe)) b (bNil)) (bCons (cRet (mN celD (aCons (mVar 1) (aNil)))) (bNil)))) [.int c] M = .ok (.ref M.length) (M ++ [.lst [.int l]]) := by
  simp [absD, pw, h, celD, hb, mFn, bCons, bNil, cRet, cAsg, cIf, cErr, cFor, mVar, mC, m1, m2, mN, aNil, aCons, mCall, callM, picks, pick, mAnd, mOr, mAndT, mOrT, mNotT, mB, mTru, mIf, mItems, itemsD, mI, truD, notD, eqD, neD, likeD, isStr, flat, flats, cmpD, isiD, tyName, gNam, gTupD, gsCons, gsNil, lim_n]
theorem left (c : Int) (M : MH) : ∃ n : Int, 0 ≤ n ∧ m_law_left [.int c] M = .ok (.ref M.length) (M ++ [.lst [.int n]]) := by
  have pw : ∀ (env : En) (M : MH), m2 powD (mC (.int 10)) (mC (.int 18)) env M = .ok (.int 1000000000000000000) M := fun env M => by rfl
  have rg : rng1D [.int 40] M = .ok (rangeL 0 40) M := rng1_n (n := 40) rfl (by decide)
  by_cases h : (c.natAbs : Int) < 1000000000000000000
  · obtain ⟨e2, M2, h1, h2⟩ := forGo_inv (g := gNam 3) (b := p_law_left_L0) (fun i e M1 => M1 = M ∧ ∃ (l s : Int) (o : Option D), e = [some (.int c), some (.int l), some (.int s), o] ∧ 0 ≤ l ∧ l < 2 ^ (60 + 32 * i)) (rangeL 0 40) 0 [some (.int c), some (.int c.natAbs), some (.int c), none] M ⟨rfl, _, _, _, rfl, by omega, by
        have : (2 : Int) ^ (60 + 32 * 0) = 1152921504606846976 := by decide +kernel
        rw [this]
        omega⟩ fun i d e M1 hd hi => by
      obtain ⟨rfl, l, s, o, rfl, q0, q1⟩ := hi
      obtain ⟨hi, rfl⟩ := rangeL_get hd
      obtain ⟨l', s', r1, r2, r3⟩ := left_step (c := c) (s := s) hi q0 (by simpa using q1) o M1
      exact ⟨_, _, _, rfl, .inl r1, rfl, l', s', _, rfl, r2, by simpa [Nat.add_assoc] using r3⟩
    obtain ⟨rfl, l, s, o, rfl, q0, q1⟩ := h2
    refine ⟨l, q0, ?_⟩
    rw [m_law_left_eq]
    refine left_small c _ l s o M2 _ _ pw h ?_
    simp [rg, h1, mFn, bCons, bNil, cRet, cAsg, cIf, cErr, cFor, mVar, mC, m1, m2, mN, aNil, aCons, mCall, callM, picks, pick, mAnd, mOr, mAndT, mOrT, mNotT, mB, mTru, mIf, mItems, itemsD, mI, truD, notD, eqD, neD, likeD, isStr, flat, flats, cmpD, isiD, tyName, gNam, gTupD, gsCons, gsNil, lim_n]
  · refine ⟨c.natAbs, by omega, ?_⟩
    rw [m_law_left_eq]
    exact left_big c _ M _ _ pw h
theorem digit {n w : Int} {l : Nat} {M : MH} (hw : 0 < w) (hw2 : w < 1000000) (hm : M[l]? = some (.lst [.int n])) : m_law_digit [.ref l, .int w] M = .ok (.int (n % w)) (M.set l (.lst [.int (n / w)])) := by
  have g : w.natAbs.log2 < 9000 := Nat.lt_of_lt_of_le (lg_of (k := 20) (by omega) (by decide)) (by decide)
  have a : atI ([.int n] : List D) 0 = some (.int n) := by rfl
  have x : ixN 1 0 = some 0 := by rfl
  simp [m_law_digit_eq, b_law_digit, ixD, hm, a, x, modD, fdivD, int2, hw, g, cPut, putD, mFn, bCons, bNil, cRet, cAsg, cIf, cErr, cFor, mVar, mC, m1, m2, mN, aNil, aCons, mCall, callM, picks, pick, mAnd, mOr, mAndT, mOrT, mNotT, mB, mTru, mIf, mItems, itemsD, mI, truD, notD, eqD, neD, likeD, isStr, flat, flats, cmpD, isiD, tyName, gNam, gTupD, gsCons, gsNil, lim_n]
/-! the rows that are built -/
theorem set_get {M : MH} {l : Nat} {o v : MO} (h : M[l]? = some o) : (M.set l v)[l]? = some v := by
  have hl := (List.getElem?_eq_some_iff.mp h).1
  rw [List.getElem?_set_self hl]
def cutI (bs : List Int) (lo hi : Option Int) : List Int := (bs.drop (HT.sIx bs.length 0 lo)).take (HT.sIx bs.length bs.length hi - HT.sIx bs.length 0 lo)
theorem cut_map (bs : List Int) (lo hi : Option Int) : Mi.cutD (bs.map D.int) lo hi = (cutI bs lo hi).map D.int := by
  unfold Mi.cutD cutI
  rw [List.length_map, List.map_take, List.map_drop]
theorem six (n d : Nat) (a : Int) (h : 0 ≤ a) : HT.sIx n d (some a) = min a.toNat n := by
  show (if a < 0 then (a + (n : Int)).toNat else min a.toNat n) = _
  rw [if_neg (by omega)]
theorem six0 (n d : Nat) : HT.sIx n d none = d := rfl
def bent (bs : List Int) (a : Int) : List Int := ((cutI bs none (some a) ++ cutI bs (some (a + 1)) (some (a + 2))) ++ cutI bs (some a) (some (a + 1))) ++ cutI bs (some (a + 2)) none
theorem bent_eq (bs : List Int) (k : Nat) : bent bs k = ((bs.take k ++ (bs.drop (k + 1)).take 1) ++ (bs.drop k).take 1) ++ bs.drop (k + 2) := by
  unfold bent cutI
  rw [six _ _ (k : Int) (by omega), six _ _ ((k : Int) + 1) (by omega), six _ _ ((k : Int) + 2) (by omega), six _ _ (k : Int) (by omega), six _ _ ((k : Int) + 1) (by omega), six _ _ ((k : Int) + 2) (by omega), six0, six0]
  have e1 : ((k : Int)).toNat = k := by omega
  have e2 : ((k : Int) + 1).toNat = k + 1 := by omega
  have e3 : ((k : Int) + 2).toNat = k + 2 := by omega
  rw [e1, e2, e3]
  by_cases h : k + 2 ≤ bs.length
  · rw [Nat.min_eq_left (by omega), Nat.min_eq_left (by omega), Nat.min_eq_left (by omega)]
    have a1 : k + 2 - (k + 1) = 1 := by omega
    have a2 : k + 1 - k = 1 := by omega
    rw [a1, a2, Nat.sub_zero, List.drop_zero, List.take_of_length_le (i := bs.length - (k + 2)) (by rw [List.length_drop]; exact Nat.le_refl _)]
  · by_cases h1 : k + 1 ≤ bs.length
    · have hl : bs.length = k + 1 := by omega
      rw [hl]
      have a1 : min k (k + 1) = k := by omega
      have a2 : min (k + 1) (k + 1) = k + 1 := by omega
      have a3 : min (k + 2) (k + 1) = k + 1 := by omega
      have a4 : k + 1 - k = 1 := by omega
      have z1 : bs.drop (k + 1) = [] := List.drop_eq_nil_of_le (by omega)
      have z2 : bs.drop (k + 2) = [] := List.drop_eq_nil_of_le (by omega)
      rw [a1, a2, a3, a4, z1, z2, Nat.sub_self, Nat.sub_zero, List.drop_zero]
      simp
    · have hl : bs.length ≤ k := by omega
      have a1 : min k bs.length = bs.length := by omega
      have a2 : min (k + 1) bs.length = bs.length := by omega
      have a3 : min (k + 2) bs.length = bs.length := by omega
      have z1 : bs.drop (k + 1) = [] := List.drop_eq_nil_of_le (by omega)
      have z2 : bs.drop (k + 2) = [] := List.drop_eq_nil_of_le (by omega)
      have z3 : bs.drop k = [] := List.drop_eq_nil_of_le hl
      have z4 : bs.drop bs.length = [] := List.drop_eq_nil_of_le (Nat.le_refl _)
      rw [a1, a2, a3, z1, z2, z3, z4, List.take_of_length_le hl]
      simp
theorem split3 (bs : List Int) (k : Nat) : bs = ((bs.take k ++ (bs.drop k).take 1) ++ (bs.drop (k + 1)).take 1) ++ bs.drop (k + 2) := by
  have h1 : bs.drop k = (bs.drop k).take 1 ++ bs.drop (k + 1) := by
    rw [← List.drop_drop (i := 1) (j := k)]
    rw [List.take_append_drop]
  have h2 : bs.drop (k + 1) = (bs.drop (k + 1)).take 1 ++ bs.drop (k + 2) := by
    rw [show k + 2 = (k + 1) + 1 by omega, ← List.drop_drop (i := 1) (j := k + 1)]
    rw [List.take_append_drop]
  rw [List.append_assoc, ← h2, List.append_assoc, ← h1, List.take_append_drop]
theorem bent_sum (bs : List Int) (k : Nat) : (bent bs k).sum = bs.sum := by
  rw [bent_eq]
  conv => rhs; rw [split3 bs k]
  simp only [List.sum_append]
  omega
theorem bent_mem {bs : List Int} {k : Nat} {b : Int} (h : b ∈ bent bs k) : b ∈ bs := by
  rw [bent_eq] at h
  simp only [List.mem_append] at h
  rcases h with ((h | h) | h) | h
  · exact List.mem_of_mem_take h
  · exact List.mem_of_mem_drop (List.mem_of_mem_take h)
  · exact List.mem_of_mem_drop (List.mem_of_mem_take h)
  · exact List.mem_of_mem_drop h
theorem bent_len (bs : List Int) (k : Nat) : (bent bs k).length ≤ bs.length := by
  rw [bent_eq]
  simp only [List.length_append, List.length_take, List.length_drop]
  omega
theorem row_step {bs : List Int} {l i : Nat} {n : Int} {M : MH} (hb : Bytes bs) (hl : bs.length = i) (hi : i < 60) (hm : M[l]? = some (.lst [.int n])) (o1 o2 o5 o6 o7 o8 o9 : Option D) (o0 : Option D) : ∃ (b : Int) (M2 : MH) (n2 : Int), 0 ≤ b ∧ b < 256 ∧
    p_law_L1 [o0, o1, o2, some (.ref l), some (bt bs), some (.int (0 + i)), o6, o7, o8, o9] M = .nx [o0, o1, o2, some (.ref l), some (bt (bs ++ [b])), some (.int (0 + i)), o6, o7, o8, o9] M2 ∧ M2[l]? = some (.lst [.int n2]) ∧ (0 ≤ n → 0 ≤ n2) := by
  have d1 := digit (n := n) (w := 256) (by decide) (by decide) hm
  have d2 := digit (n := n / 256) (w := 4) (by decide) (by decide) (set_get (v := .lst [.int (n / 256)]) hm)
  have q0 : 0 ≤ n % 256 := Int.emod_nonneg _ (by decide)
  have q1 : n % 256 < 256 := Int.emod_lt_of_pos _ (by decide)
  have r0 : 0 ≤ n / 256 % 4 := Int.emod_nonneg _ (by decide)
  have r1 : n / 256 % 4 < 4 := Int.emod_lt_of_pos _ (by decide)
  have hz : ∃ b : Int, 0 ≤ b ∧ b < 256 ∧ atI ([.int 0, .int 255, .int 1, .int (n % 256)] : List D) (n / 256 % 4) = some (.int b) := by
    rcases (show n / 256 % 4 = 0 ∨ n / 256 % 4 = 1 ∨ n / 256 % 4 = 2 ∨ n / 256 % 4 = 3 by omega) with e | e | e | e
    · rw [e]; exact ⟨0, by decide, by decide, rfl⟩
    · rw [e]; exact ⟨255, by decide, by decide, rfl⟩
    · rw [e]; exact ⟨1, by decide, by decide, rfl⟩
    · rw [e]; exact ⟨n % 256, q0, q1, rfl⟩
  obtain ⟨b, b0, b1, hz⟩ := hz
  have hn : 0 ≤ n → 0 ≤ n / 256 / 4 := fun h => Int.ediv_nonneg (Int.ediv_nonneg h (by decide)) (by decide)
  refine ⟨b, (M.set l (.lst [.int (n / 256)])).set l (.lst [.int (n / 256 / 4)]), n / 256 / 4, b0, b1, ?_, set_get (set_get hm), hn⟩
  have sz : bs.length + 1 ≤ 1000000 := by omega
  generalize n % 256 = x1 at d1 hz
  generalize n / 256 % 4 = x2 at d2 hz
  generalize n / 256 = x3 at d1 d2
  generalize x3 / 4 = x4 at d2
  simp [p_law_L1, d1, d2, lstD, tupD, ixD, hz, addD, sz, mFn, bCons, bNil, cRet, cAsg, cIf, cErr, cFor, mVar, mC, m1, m2, mN, aNil, aCons, mCall, callM, picks, pick, mAnd, mOr, mAndT, mOrT, mNotT, mB, mTru, mIf, mItems, itemsD, mI, truD, notD, eqD, neD, likeD, isStr, flat, flats, cmpD, isiD, tyName, gNam, gTupD, gsCons, gsNil, lim_n]
theorem far_row (M : MH) : ∃ bs : List Int, Bytes bs ∧ bs.length = 400 ∧ ∀ (o0 o1 o2 o3 o4 o5 o6 o7 o8 o9 : Option D), mLc (mI rng1D (aCons (mC (.int 400)) (aNil))) (gNam 9) (mYes) p_law_C0 [9] [o0, o1, o2, o3, o4, o5, o6, o7, o8, o9] M = .ok (.lst (bs.map D.int)) M := by
  refine ⟨(List.range 400).map fun (i : Nat) => (i : Int) * 7 % 256, fun b hb => ?_, by simp, fun o0 o1 o2 o3 o4 o5 o6 o7 o8 o9 => ?_⟩
  · obtain ⟨i, _, rfl⟩ := List.mem_map.mp hb
    exact ⟨Int.emod_nonneg _ (by decide), Int.emod_lt_of_pos _ (by decide)⟩
  · have rg : rng1D [.int 400] M = .ok (rangeL 0 400) M := rng1_n (n := 400) rfl (by decide)
    have lc : lcGo (lcOne (gNam 9) mYes p_law_C0 (wipeE [o0, o1, o2, o3, o4, o5, o6, o7, o8, o9] [9])) (rangeL 0 400) M = .ok ((rangeL 0 400).map fun d => match d with | .int i => .int (i * 7 % 256) | d => d) M := lcGo_all fun x hx => by
      obtain ⟨i, hi, rfl⟩ := rangeL_mem hx
      have g : mulD (.int (0 + (i : Int))) (.int 7) M = .ok (.int ((0 + (i : Int)) * 7)) M := mul_ok (a := 10) (b := 4) (by omega) (by decide) (by decide) (by decide) (by decide)
      generalize (0 + (i : Int)) = z at g
      simp [lcOne, wipeE, gNam, mYes, noX, p_law_C0, m2, mVar, mC, g, modD, int2]
    unfold mLc mI aCons aNil mC
    simp only [R.bind_ok]
    rw [rg]
    simp only [R.bind_ok]
    rw [if_pos (by rw [rangeL_len]; decide), lc]
    simp only [R.bind_ok]
    unfold rangeL
    rw [List.map_map, List.map_map]
    congr 2
end K02

end

section
set_option maxHeartbeats 4000000
namespace K02
open PySem PySem.Spec PyProof.Rows L2 Mi
theorem one_right {d : D} {M : MH} {o0 o1 o2 o3 o4 o5 o6 o7 o9 : Option D} (h : m_law_right [d] M = .ok (.bl true) M) : p_law_L2 [o0, o1, o2, o3, o4, o5, o6, o7, some d, o9] M = .nx [o0, o1, o2, o3, o4, o5, o6, o7, some d, o9] M := by
  simp [p_law_L2, h, mFn, bCons, bNil, cRet, cAsg, cIf, cErr, cFor, mVar, mC, m1, m2, mN, aNil, aCons, mCall, callM, picks, pick, mAnd, mOr, mAndT, mOrT, mNotT, mB, mTru, mIf, mItems, itemsD, mI, truD, notD, eqD, neD, likeD, isStr, flat, flats, cmpD, isiD, tyName, gNam, gTupD, gsCons, gsNil, lim_n]
theorem cell_body {c a z : Int} {l : Nat} {k : Int} {R : List D} {ds c1 c2 c3 c4 : List D} {M M1 M2 M3 M4 : MH} {o0 o1 o3 o4 o5 o6 o7 o8 o9 o5' : Option D}
    (h1 : m_law_left [.int c] M = .ok (.ref l) M1) (h2 : m_law_digit [.ref l, .int 60] M1 = .ok (.int k) M2) (h3 : rng1D [.int k] M2 = .ok R M2)
    (h4 : forGo (gNam 5) p_law_L1 R [o0, o1, some (.int c), some (.ref l), some (.tup []), o5, o6, o7, o8, o9] M2 = .nx [o0, o1, some (.int c), some (.ref l), some (.tup ds), o5', o6, o7, o8, o9] M3)
    (h5 : m_law_digit [.ref l, .int ((ds.length : Int) + 1)] M3 = .ok (.int a) M4)
    (s1 : sliceD none (some a) (.tup ds) M4 = .ok (.tup c1) M4) (s2 : sliceD (some (a + 1)) (some (a + 2)) (.tup ds) M4 = .ok (.tup c2) M4) (s3 : sliceD (some a) (some (a + 1)) (.tup ds) M4 = .ok (.tup c3) M4) (s4 : sliceD (some (a + 2)) none (.tup ds) M4 = .ok (.tup c4) M4)
    (z1 : c1.length + c2.length ≤ 1000000) (z2 : (c1.length + c2.length) + c3.length ≤ 1000000) (z3 : c1.length + (c2.length + c3.length) + c4.length ≤ 1000000) (z4 : ds.length + 1 ≤ 1000000) (z5 : 1 + ds.length ≤ 1000000)
    (h6 : forGo (gNam 8) p_law_L2 [.tup ds, .tup ds.reverse, .tup (c1 ++ (c2 ++ (c3 ++ c4))), .tup (ds ++ [.int 0]), .tup (.int 0 :: ds)] [o0, o1, some (.int c), some (.ref l), some (.tup ds), o5', some (.int a), some (.tup (c1 ++ (c2 ++ (c3 ++ c4)))), o8, o9] M4 = .nx [o0, o1, some (.int c), some (.ref l), some (.tup ds), o5', some (.int a), some (.tup (c1 ++ (c2 ++ (c3 ++ c4)))), some (.tup (.int 0 :: ds)), o9] M4)
    (h7 : m_sum_by [.str "plain", .tup (c1 ++ (c2 ++ (c3 ++ c4)))] M4 = .ok (.int z) M4) (h8 : m_sum_by [.str "plain", .tup ds] M4 = .ok (.int z) M4) :
    p_law_L3 [o0, o1, some (.int c), o3, o4, o5, o6, o7, o8, o9] M = .nx [o0, o1, some (.int c), some (.ref l), some (.tup ds), o5', some (.int a), some (.tup (c1 ++ (c2 ++ (c3 ++ c4)))), some (.tup (.int 0 :: ds)), o9] M4 := by
  simp [p_law_L3, h1, h2, h3, h4, h5, mSl, mNoP, mPart, s1, s2, s3, s4, addD, tupD, lenD, lstD, revD, negD, z1, z2, z3, z4, z5, h6, h7, h8, deq_refl_int, mFn, bCons, bNil, cRet, cAsg, cIf, cErr, cFor, mVar, mC, m1, m2, mN, aNil, aCons, mCall, callM, picks, pick, mAnd, mOr, mAndT, mOrT, mNotT, mB, mTru, mIf, mItems, itemsD, mI, truD, notD, eqD, neD, likeD, isStr, flat, flats, cmpD, isiD, tyName, gNam, gTupD, gsCons, gsNil, lim_n]
theorem Bytes.snoc {bs : List Int} {b : Int} (h : Bytes bs) (b0 : 0 ≤ b) (b1 : b < 256) : Bytes (bs ++ [b]) := fun x hx => by
  rcases List.mem_append.mp hx with q | q
  · exact h x q
  · rw [List.mem_singleton.mp q]; exact ⟨b0, b1⟩
theorem slice_tup {bs : List Int} {lo hi : Option Int} {M : MH} : sliceD lo hi (bt bs) M = .ok (bt (cutI bs lo hi)) M := by
  show Mi.R.ok (D.tup (Mi.cutD (bs.map D.int) lo hi)) M = _
  rw [cut_map]
theorem cell_step (c : Int) (M : MH) (o0 o1 o3 o4 o5 o6 o7 o8 o9 : Option D) : ∃ (p3 p4 p5 p6 p7 p8 : Option D) (M' : MH), p_law_L3 [o0, o1, some (.int c), o3, o4, o5, o6, o7, o8, o9] M = .nx [o0, o1, some (.int c), p3, p4, p5, p6, p7, p8, o9] M' := by
  obtain ⟨n, n0, h1⟩ := left c M
  have g1 : (M ++ [MO.lst [.int n]])[M.length]? = some (.lst [.int n]) := by simp
  have h2 := digit (n := n) (w := 60) (by decide) (by decide) g1
  have q0 : 0 ≤ n % 60 := Int.emod_nonneg _ (by decide)
  have q1 : n % 60 < 60 := Int.emod_lt_of_pos _ (by decide)
  obtain ⟨k, hk⟩ : ∃ k : Nat, n % 60 = k := ⟨(n % 60).toNat, by omega⟩
  have g2 : ((M ++ [MO.lst [.int n]]).set M.length (.lst [.int (n / 60)]))[M.length]? = some (.lst [.int (n / 60)]) := set_get g1
  have n1 : 0 ≤ n / 60 := Int.ediv_nonneg n0 (by decide)
  generalize (M ++ [MO.lst [.int n]]).set M.length (.lst [.int (n / 60)]) = M2 at h2 g2
  generalize n / 60 = n' at g2 n1
  have h3 : rng1D [.int (n % 60)] M2 = .ok (rangeL 0 k) M2 := rng1_n hk (by omega)
  obtain ⟨e2, M3, h4, h5⟩ := forGo_inv (g := gNam 5) (b := p_law_L1) (fun i e M1 => ∃ (bs : List Int) (n : Int) (o5 : Option D), Bytes bs ∧ bs.length = i ∧ e = [o0, o1, some (.int c), some (.ref M.length), some (bt bs), o5, o6, o7, o8, o9] ∧ M1[M.length]? = some (.lst [.int n]) ∧ 0 ≤ n) (rangeL 0 k) 0 [o0, o1, some (.int c), some (.ref M.length), some (.tup []), o5, o6, o7, o8, o9] M2
    ⟨[], n', o5, fun _ h => (by cases h), rfl, rfl, g2, n1⟩ fun i d e M1 hd hi => by
      obtain ⟨bs, n, o5, hb, hl, rfl, hm, hn⟩ := hi
      obtain ⟨hi, rfl⟩ := rangeL_get hd
      obtain ⟨b, M4, n2, b0, b1, r1, r2, r3⟩ := row_step (l := M.length) (i := i) hb (by simpa using hl) (by omega) hm o1 (some (.int c)) none o6 o7 o8 o9 o0
      exact ⟨_, _, _, rfl, .inl r1, bs ++ [b], n2, some (.int (0 + i)), hb.snoc b0 b1, by rw [List.length_append, hl]; rfl, rfl, r2, r3 hn⟩
  rw [rangeL_len, Nat.zero_add] at h5
  obtain ⟨bs, n3, p5, hb, hl, rfl, g3, n3p⟩ := h5
  have hk60 : k < 60 := by omega
  have h6 := digit (n := n3) (w := ((bs.map D.int).length : Int) + 1) (by omega) (by rw [List.length_map]; omega) g3
  have w1 : 0 ≤ n3 % (((bs.map D.int).length : Int) + 1) := Int.emod_nonneg _ (by omega)
  obtain ⟨a, ha⟩ : ∃ a : Nat, n3 % (((bs.map D.int).length : Int) + 1) = a := ⟨(n3 % (((bs.map D.int).length : Int) + 1)).toNat, by omega⟩
  rw [ha] at h6
  generalize M3.set M.length (.lst [.int (n3 / (((bs.map D.int).length : Int) + 1))]) = M4 at h6
  have cl := bent_len bs a
  have eb : (cutI bs none (some a) ++ (cutI bs (some ((a : Int) + 1)) (some ((a : Int) + 2)) ++ (cutI bs (some (a : Int)) (some ((a : Int) + 1)) ++ cutI bs (some ((a : Int) + 2)) none))) = bent bs a := by
    unfold bent
    simp
  have eb2 : (bt (bent bs a)) = .tup ((cutI bs none (some a)).map D.int ++ ((cutI bs (some ((a : Int) + 1)) (some ((a : Int) + 2))).map D.int ++ ((cutI bs (some (a : Int)) (some ((a : Int) + 1))).map D.int ++ (cutI bs (some ((a : Int) + 2)) none).map D.int))) := by
    rw [← eb]
    simp
  have cl2 : (cutI bs none (some a)).length + ((cutI bs (some ((a : Int) + 1)) (some ((a : Int) + 2))).length + ((cutI bs (some (a : Int)) (some ((a : Int) + 1))).length + (cutI bs (some ((a : Int) + 2)) none).length)) ≤ bs.length := by
    rw [← eb] at cl
    simpa using cl
  have bb : Bytes (bent bs a) := fun x hx => hb x (bent_mem hx)
  have r1 := right hb (by omega) M4
  have r2 := right (bs := bs.reverse) (fun x hx => hb x (List.mem_reverse.mp hx)) (by rw [List.length_reverse]; omega) M4
  have r3 := right bb (by omega) M4
  have r4 := right (bs := bs ++ [0]) (hb.snoc (by decide) (by decide)) (by rw [List.length_append]; show bs.length + 1 < 1000; omega) M4
  have r5 := right (bs := 0 :: bs) (fun x hx => by
    rcases List.mem_cons.mp hx with q | q
    · rw [q]; decide
    · exact hb x q) (by rw [List.length_cons]; omega) M4
  have p1 := sum_by_plain (bent bs a) M4
  have p2 := sum_by_plain bs M4
  rw [bent_sum] at p1
  rw [eb2] at p1 r3
  have e4 : bt (bs ++ [0]) = .tup (bs.map D.int ++ [.int 0]) := by simp
  have e5 : bt (0 :: bs) = .tup (.int 0 :: bs.map D.int) := by simp
  have e6 : bt bs.reverse = .tup (bs.map D.int).reverse := by simp
  rw [e4] at r4
  rw [e5] at r5
  rw [e6] at r2
  refine ⟨_, _, _, _, _, _, _, cell_body (ds := bs.map D.int) (c1 := (cutI bs none (some a)).map D.int) (c2 := (cutI bs (some ((a : Int) + 1)) (some ((a : Int) + 2))).map D.int) (c3 := (cutI bs (some (a : Int)) (some ((a : Int) + 1))).map D.int) (c4 := (cutI bs (some ((a : Int) + 2)) none).map D.int) h1 h2 h3 h4 h6 slice_tup slice_tup slice_tup slice_tup ?_ ?_ ?_ ?_ ?_ ?_ p1 p2⟩
  · simp only [List.length_map]; omega
  · simp only [List.length_map]; omega
  · simp only [List.length_map]; omega
  · simp only [List.length_map]; omega
  · simp only [List.length_map]; omega
  · simp [forGo, gNam, one_right r1, one_right r2, one_right r3, one_right r4, one_right r5]
theorem law_body {sc far ff : List D} {items : List D} {M M' : MH} {env' : En}
    (h1 : mLc (mI rng1D (aCons (mC (.int 400)) (aNil))) (gNam 9) (mYes) p_law_C0 [9] [some (.lst sc), none, none, none, none, none, none, none, none, none] M = .ok (.lst far) M)
    (h2 : mulD (.tup [.int 255]) (.int 400) M = .ok (.tup ff) M) (r1 : m_law_right [.tup ff] M = .ok (.bl true) M) (r2 : m_law_right [.tup far] M = .ok (.bl true) M) (r3 : m_law_right [.tup []] M = .ok (.bl true) M)
    (s : sliceD none (some 16) (.lst sc) M = .ok (.lst items) M) (z : items.length + 1 ≤ 1000000)
    (lp : forGo (gNam 2) p_law_L3 (items ++ [.int 4]) [some (.lst sc), some (.tup far), none, none, none, none, none, none, none, none] M = .nx env' M') :
    m_law [.lst sc] M = .ok (.bl true) M' := by
  have e1 : ∀ (env : En) (M : MH), mLc (mI rng1D (aCons (mC (.int 400)) (aNil))) (gNam 9) (mYes) p_law_C0 [9] = mLc (mI rng1D (aCons (mC (.int 400)) (aNil))) (gNam 9) (mYes) p_law_C0 [9] := fun _ _ => rfl
  rw [m_law_eq]
  unfold b_law
  generalize mLc (mI rng1D (aCons (mC (.int 400)) (aNil))) (gNam 9) (mYes) p_law_C0 [9] = lc at h1 ⊢
  simp [h1, tupOfD, tupD, h2, r1, r2, r3, mSl, mNoP, mPart, s, lstD, addD, z, lp, mFn, bCons, bNil, cRet, cAsg, cIf, cErr, cFor, mVar, mC, m1, m2, mN, aNil, aCons, mCall, callM, picks, pick, mAnd, mOr, mAndT, mOrT, mNotT, mB, mTru, mIf, mItems, itemsD, mI, truD, notD, eqD, neD, likeD, isStr, flat, flats, cmpD, isiD, tyName, gNam, gTupD, gsCons, gsNil, lim_n]
theorem law_true (ns : List Int) (hn : ns.length ≤ 63) : ∃ M', m_law [.lst (ns.map D.int)] [] = .ok (.bl true) M' := by
  obtain ⟨fb, f1, f2, f3⟩ := far_row []
  have hf : mulD (.tup [.int 255]) (.int 400) [] = .ok (bt (List.replicate 400 255)) [] := by
    have e : (List.replicate 400 255 : List Int).map D.int = (List.replicate (400 : Int).toNat [D.int 255]).flatten := by
      rw [List.map_replicate]
      exact (List.flatten_replicate_singleton).symm
    show _ = Mi.R.ok (D.tup ((List.replicate 400 255 : List Int).map D.int)) []
    rw [e]
    rfl
  have b4 : Bytes (List.replicate 400 255) := fun b hb => by rw [List.eq_of_mem_replicate hb]; decide
  have sl : sliceD none (some 16) (.lst (ns.map D.int)) [] = .ok (.lst ((cutI ns none (some 16)).map D.int)) [] := by
    show Mi.R.ok (D.lst (Mi.cutD (ns.map D.int) none (some 16))) [] = _
    rw [cut_map]
  have cl : (cutI ns none (some 16)).length ≤ ns.length := by
    unfold cutI
    rw [List.length_take, List.length_drop]
    omega
  have ei : (cutI ns none (some 16)).map D.int ++ [.int 4] = ((cutI ns none (some 16)) ++ [4]).map D.int := by simp
  obtain ⟨e2, M2, h1, h2⟩ := forGo_inv (g := gNam 2) (b := p_law_L3) (fun i e M1 => ∃ p2 p3 p4 p5 p6 p7 p8 : Option D, e = [some (.lst (ns.map D.int)), some (bt fb), p2, p3, p4, p5, p6, p7, p8, none]) (((cutI ns none (some 16)) ++ [4]).map D.int) 0 [some (.lst (ns.map D.int)), some (bt fb), none, none, none, none, none, none, none, none] [] ⟨_, _, _, _, _, _, _, rfl⟩ fun i d e M1 hd hi => by
    obtain ⟨p2, p3, p4, p5, p6, p7, p8, rfl⟩ := hi
    obtain ⟨c, hc, rfl⟩ := map_int_get hd
    obtain ⟨q3, q4, q5, q6, q7, q8, M', r⟩ := cell_step c M1 (some (.lst (ns.map D.int))) (some (bt fb)) p3 p4 p5 p6 p7 p8 none
    exact ⟨_, _, _, rfl, .inl r, _, _, _, _, _, _, _, rfl⟩
  rw [← ei] at h1
  exact ⟨M2, law_body (f3 _ _ _ _ _ _ _ _ _ _) hf (right b4 (by rw [List.length_replicate]; decide) []) (right f1 (by omega) []) (right (bs := []) (fun _ h => (by cases h)) (by decide) []) sl (by rw [List.length_map]; omega) h1⟩
end K02

end

section
set_option maxHeartbeats 4000000
namespace K02
open PySem PySem.Spec PyProof.Rows L2 Mi
theorem all_mk {l : PySem.W.OpenLaw} {w : World} {K : PySem.W.Frag} {h : Heap} {mg : Str → Option Value} {fa : Addr} (X : K.In h) (G : h.Ns mainGlobals mg) (hfa : mg "law" = some (.ref fa))
  {f0 : Addr} {od0 an0 : Option Addr} {sl0 : Array (Option Value)} {oc0 dc0 pm0 cd0 ct0 : Value}
  {kV0 : Value}
  {f1 : Addr} {od1 an1 : Option Addr} {sl1 : Array (Option Value)} {oc1 dc1 pm1 cd1 ct1 : Value}
  {kV1 : Value}
  {f2 : Addr} {od2 an2 : Option Addr} {sl2 : Array (Option Value)} {oc2 dc2 pm2 cd2 ct2 : Value}
  {kV2 : Value}
  {f3 : Addr} {od3 an3 : Option Addr} {sl3 : Array (Option Value)} {oc3 dc3 pm3 cd3 ct3 : Value}
  {kV3 : Value}
  {f4 : Addr} {od4 an4 : Option Addr} {sl4 : Array (Option Value)} {oc4 dc4 pm4 cd4 ct4 : Value}
  {kV4 : Value}
  {f5 : Addr} {od5 an5 : Option Addr} {sl5 : Array (Option Value)} {oc5 dc5 pm5 cd5 ct5 : Value}
  {kV5 : Value}
  {f6 : Addr} {od6 an6 : Option Addr} {sl6 : Array (Option Value)} {oc6 dc6 pm6 cd6 ct6 : Value}
  {kV6 : Value}
  {f7 : Addr} {od7 an7 : Option Addr} {sl7 : Array (Option Value)} {oc7 dc7 pm7 cd7 ct7 : Value}
  {kV7 : Value}
  {f8 : Addr} {od8 an8 : Option Addr} {sl8 : Array (Option Value)} {oc8 dc8 pm8 cd8 ct8 : Value}
  {kV8 : Value}
  {f9 : Addr} {od9 an9 : Option Addr} {sl9 : Array (Option Value)} {oc9 dc9 pm9 cd9 ct9 : Value}
  {kV9 : Value}
  {f10 : Addr} {od10 an10 : Option Addr} {sl10 : Array (Option Value)} {oc10 dc10 pm10 cd10 ct10 : Value}
  {Dk10 : Addr} {tk10 : Tok}
  {f11 : Addr} {od11 an11 : Option Addr} {sl11 : Array (Option Value)} {oc11 dc11 pm11 cd11 ct11 : Value}
  {kV11 : Value}
  {f12 : Addr} {od12 an12 : Option Addr} {sl12 : Array (Option Value)} {oc12 dc12 pm12 cd12 ct12 : Value}
  {kV12 : Value}
  {f13 : Addr} {od13 an13 : Option Addr} {sl13 : Array (Option Value)} {oc13 dc13 pm13 cd13 ct13 : Value}
  {kV13 : Value}
  {p_SUM_SIZES : Addr} {es_SUM_SIZES : Array DictEntry} {n_SUM_SIZES : Nat}
  {tv_SUM_SIZES0 : Tok}
  {tv_SUM_SIZES1 : Tok}
  {tv_SUM_SIZES2 : Tok}
  {k_MIXED_BEGIN : Tok}
  {p_NoNumber : Addr}
  (a0 : PySem.W.nsIn K mainGlobals "is_whole" = some (some (.ref f0))) (l0 : K.lookup f0 = some ⟨oc0, od0, .func (PySem.W.fnOf "is_whole" "is_whole" (defArgs st_is_whole) (defBody st_is_whole) (defScope st_is_whole) .none kV0 dc0 pm0 an0 cd0 ct0), sl0⟩) (c0 : PySem.W.codeIn K cd0 "is_whole" = true) (k0 : PySem.W.keepIn K (.ref f0) = true)
  (a1 : PySem.W.nsIn K mainGlobals "sum_size" = some (some (.ref f1))) (l1 : K.lookup f1 = some ⟨oc1, od1, .func (PySem.W.fnOf "sum_size" "sum_size" (defArgs st_sum_size) (defBody st_sum_size) (defScope st_sum_size) .none kV1 dc1 pm1 an1 cd1 ct1), sl1⟩) (c1 : PySem.W.codeIn K cd1 "sum_size" = true) (k1 : PySem.W.keepIn K (.ref f1) = true)
  (a2 : PySem.W.nsIn K mainGlobals "mixed_on" = some (some (.ref f2))) (l2 : K.lookup f2 = some ⟨oc2, od2, .func (PySem.W.fnOf "mixed_on" "mixed_on" (defArgs st_mixed_on) (defBody st_mixed_on) (defScope st_mixed_on) .none kV2 dc2 pm2 an2 cd2 ct2), sl2⟩) (c2 : PySem.W.codeIn K cd2 "mixed_on" = true) (k2 : PySem.W.keepIn K (.ref f2) = true)
  (a3 : PySem.W.nsIn K mainGlobals "_law_left" = some (some (.ref f3))) (l3 : K.lookup f3 = some ⟨oc3, od3, .func (PySem.W.fnOf "_law_left" "_law_left" (defArgs st__law_left) (defBody st__law_left) (defScope st__law_left) .none kV3 dc3 pm3 an3 cd3 ct3), sl3⟩) (c3 : PySem.W.codeIn K cd3 "_law_left" = true) (k3 : PySem.W.keepIn K (.ref f3) = true)
  (a4 : PySem.W.nsIn K mainGlobals "_law_digit" = some (some (.ref f4))) (l4 : K.lookup f4 = some ⟨oc4, od4, .func (PySem.W.fnOf "_law_digit" "_law_digit" (defArgs st__law_digit) (defBody st__law_digit) (defScope st__law_digit) .none kV4 dc4 pm4 an4 cd4 ct4), sl4⟩) (c4 : PySem.W.codeIn K cd4 "_law_digit" = true) (k4 : PySem.W.keepIn K (.ref f4) = true)
  (a5 : PySem.W.nsIn K mainGlobals "_law_plain" = some (some (.ref f5))) (l5 : K.lookup f5 = some ⟨oc5, od5, .func (PySem.W.fnOf "_law_plain" "_law_plain" (defArgs st__law_plain) (defBody st__law_plain) (defScope st__law_plain) .none kV5 dc5 pm5 an5 cd5 ct5), sl5⟩) (c5 : PySem.W.codeIn K cd5 "_law_plain" = true) (k5 : PySem.W.keepIn K (.ref f5) = true)
  (a6 : PySem.W.nsIn K mainGlobals "_law_placed" = some (some (.ref f6))) (l6 : K.lookup f6 = some ⟨oc6, od6, .func (PySem.W.fnOf "_law_placed" "_law_placed" (defArgs st__law_placed) (defBody st__law_placed) (defScope st__law_placed) .none kV6 dc6 pm6 an6 cd6 ct6), sl6⟩) (c6 : PySem.W.codeIn K cd6 "_law_placed" = true) (k6 : PySem.W.keepIn K (.ref f6) = true)
  (a7 : PySem.W.nsIn K mainGlobals "_law_mixed" = some (some (.ref f7))) (l7 : K.lookup f7 = some ⟨oc7, od7, .func (PySem.W.fnOf "_law_mixed" "_law_mixed" (defArgs st__law_mixed) (defBody st__law_mixed) (defScope st__law_mixed) .none kV7 dc7 pm7 an7 cd7 ct7), sl7⟩) (c7 : PySem.W.codeIn K cd7 "_law_mixed" = true) (k7 : PySem.W.keepIn K (.ref f7) = true)
  (a8 : PySem.W.nsIn K mainGlobals "is_number" = some (some (.ref f8))) (l8 : K.lookup f8 = some ⟨oc8, od8, .func (PySem.W.fnOf "is_number" "is_number" (defArgs st_is_number) (defBody st_is_number) (defScope st_is_number) .none kV8 dc8 pm8 an8 cd8 ct8), sl8⟩) (c8 : PySem.W.codeIn K cd8 "is_number" = true) (k8 : PySem.W.keepIn K (.ref f8) = true)
  (a9 : PySem.W.nsIn K mainGlobals "sum_by" = some (some (.ref f9))) (l9 : K.lookup f9 = some ⟨oc9, od9, .func (PySem.W.fnOf "sum_by" "sum_by" (defArgs st_sum_by) (defBody st_sum_by) (defScope st_sum_by) .none kV9 dc9 pm9 an9 cd9 ct9), sl9⟩) (c9 : PySem.W.codeIn K cd9 "sum_by" = true) (k9 : PySem.W.keepIn K (.ref f9) = true)
  (a10 : PySem.W.nsIn K mainGlobals "bytes_of" = some (some (.ref f10))) (l10 : K.lookup f10 = some ⟨oc10, od10, .func (PySem.W.fnOf "bytes_of" "bytes_of" (defArgs st_bytes_of) (defBody st_bytes_of) (defScope st_bytes_of) .none (.ref Dk10) dc10 pm10 an10 cd10 ct10), sl10⟩) (c10 : PySem.W.codeIn K cd10 "bytes_of" = true) (k10 : PySem.W.keepIn K (.ref f10) = true)
  (d10 : PySem.W.nsIn K Dk10 "order" = some (some (.str "big" tk10)))
  (a11 : PySem.W.nsIn K mainGlobals "sum_bytes" = some (some (.ref f11))) (l11 : K.lookup f11 = some ⟨oc11, od11, .func (PySem.W.fnOf "sum_bytes" "sum_bytes" (defArgs st_sum_bytes) (defBody st_sum_bytes) (defScope st_sum_bytes) .none kV11 dc11 pm11 an11 cd11 ct11), sl11⟩) (c11 : PySem.W.codeIn K cd11 "sum_bytes" = true) (k11 : PySem.W.keepIn K (.ref f11) = true)
  (a12 : PySem.W.nsIn K mainGlobals "_law_right" = some (some (.ref f12))) (l12 : K.lookup f12 = some ⟨oc12, od12, .func (PySem.W.fnOf "_law_right" "_law_right" (defArgs st__law_right) (defBody st__law_right) (defScope st__law_right) .none kV12 dc12 pm12 an12 cd12 ct12), sl12⟩) (c12 : PySem.W.codeIn K cd12 "_law_right" = true) (k12 : PySem.W.keepIn K (.ref f12) = true)
  (a13 : PySem.W.nsIn K mainGlobals "law" = some (some (.ref f13))) (l13 : K.lookup f13 = some ⟨oc13, od13, .func (PySem.W.fnOf "law" "law" (defArgs st_law) (defBody st_law) (defScope st_law) .none kV13 dc13 pm13 an13 cd13 ct13), sl13⟩) (c13 : PySem.W.codeIn K cd13 "law" = true) (k13 : PySem.W.keepIn K (.ref f13) = true)
  (g_SUM_SIZES : PySem.W.nsIn K mainGlobals "SUM_SIZES" = some (some (.ref p_SUM_SIZES))) (lt_SUM_SIZES : K.lookup p_SUM_SIZES = some ⟨.type "dict", none, .dict es_SUM_SIZES n_SUM_SIZES, #[]⟩) (kl_SUM_SIZES : PySem.W.KeysLit w.params es_SUM_SIZES.toList)
  (v_SUM_SIZES0 : PySem.W.nsIn K p_SUM_SIZES "plain" = some (some (.int 1 tv_SUM_SIZES0)))
  (v_SUM_SIZES1 : PySem.W.nsIn K p_SUM_SIZES "placed" = some (some (.int 2 tv_SUM_SIZES1)))
  (v_SUM_SIZES2 : PySem.W.nsIn K p_SUM_SIZES "mixed" = some (some (.int 2 tv_SUM_SIZES2)))
  (z_isinstance : PySem.W.nsIn K mainGlobals "isinstance" = some none)
  (z_int : PySem.W.nsIn K mainGlobals "int" = some none)
  (z_bool : PySem.W.nsIn K mainGlobals "bool" = some none)
  (z_abs : PySem.W.nsIn K mainGlobals "abs" = some none)
  (z_range : PySem.W.nsIn K mainGlobals "range" = some none)
  (z_len : PySem.W.nsIn K mainGlobals "len" = some none)
  (z_sum : PySem.W.nsIn K mainGlobals "sum" = some none)
  (z_enumerate : PySem.W.nsIn K mainGlobals "enumerate" = some none)
  (z_tuple : PySem.W.nsIn K mainGlobals "tuple" = some none)
  (z_repr : PySem.W.nsIn K mainGlobals "repr" = some none)
  (g_MIXED_BEGIN : PySem.W.nsIn K mainGlobals "MIXED_BEGIN" = some (some (.int 5381 k_MIXED_BEGIN)))
  (n_NoNumber : PySem.W.nsIn K mainGlobals "NoNumber" = some (some (.ref p_NoNumber)))
  (e_NoNumber : PySem.W.excIn K p_NoNumber [.type "ValueError", .type "Exception", .type "BaseException", .type "object"] "ValueError.__new__" = true) (kk_NoNumber : PySem.W.keepIn K (.ref p_NoNumber) = true) (ty_NoNumber : PySem.W.typeIn K (.ref p_NoNumber) = some (.type "type"))
  (sb_NoNumber : PySem.W.subIn K (.ref p_NoNumber) (.type "BaseException") = some true) :
  ∃ fd : FuncData, (∀ (s : Shared) (u : Value), BindsTo s fd ⟨[u], []⟩ [("_law_script", u)]) ∧ ∀ base : Heap, K.In base → base.Ns mainGlobals mg → FnG l.prog w K mg base 6 fa fd ["_law_script"] (spM K 1 m_law) := by
  refine ⟨_, fun s u => .of_eq rfl, fun base _ _ => law_fd (x := "law") (st := st_law) (ps := ["_law_script"]) X G hfa a13 l13 ?_⟩
  have A0 := at_mk (st := st_is_whole) X G a0 l0 c0 k0
  have A1 := at_mk (st := st_sum_size) X G a1 l1 c1 k1
  have A2 := at_mk (st := st_mixed_on) X G a2 l2 c2 k2
  have A3 := at_mk (st := st__law_left) X G a3 l3 c3 k3
  have A4 := at_mk (st := st__law_digit) X G a4 l4 c4 k4
  have A5 := at_mk (st := st__law_plain) X G a5 l5 c5 k5
  have A6 := at_mk (st := st__law_placed) X G a6 l6 c6 k6
  have A7 := at_mk (st := st__law_mixed) X G a7 l7 c7 k7
  have A8 := at_mk (st := st_is_number) X G a8 l8 c8 k8
  have A9 := at_mk (st := st_sum_by) X G a9 l9 c9 k9
  have A10 : At K mg "bytes_of" st_bytes_of [] [("order", V.str "big")] := at_mkl X G a10 l10 c10 k10 fun q hq => by
    simp only [List.mem_cons, List.not_mem_nil, or_false] at hq
    rcases hq with rfl
    · exact ⟨_, d10, ⟨_, rfl⟩⟩
  have A11 := at_mk (st := st_sum_bytes) X G a11 l11 c11 k11
  have A12 := at_mk (st := st__law_right) X G a12 l12 c12 k12
  have A13 := at_mk (st := st_law) X G a13 l13 c13 k13
  have Z_isinstance := PySem.W.mg_none_of X G z_isinstance
  have Z_int := PySem.W.mg_none_of X G z_int
  have Z_bool := PySem.W.mg_none_of X G z_bool
  have Z_abs := PySem.W.mg_none_of X G z_abs
  have Z_range := PySem.W.mg_none_of X G z_range
  have Z_len := PySem.W.mg_none_of X G z_len
  have Z_sum := PySem.W.mg_none_of X G z_sum
  have Z_enumerate := PySem.W.mg_none_of X G z_enumerate
  have Z_tuple := PySem.W.mg_none_of X G z_tuple
  have Z_repr := PySem.W.mg_none_of X G z_repr
  have R_NoNumber : RC0 K mg "NoNumber" := ⟨p_NoNumber, _, _, _, _, PySem.F.excBase_ValueError, PySem.W.mg_of X G n_NoNumber, n_NoNumber, e_NoNumber, kk_NoNumber, sb_NoNumber, ty_NoNumber⟩
  have T_SUM_SIZES : KTab K w p_SUM_SIZES tbl_SUM_SIZES := fun e he => by
    simp only [tbl_SUM_SIZES, List.mem_cons, List.not_mem_nil, or_false] at he
    rcases he with rfl | rfl | rfl
    · exact tab1 (v := .int 1) lt_SUM_SIZES kl_SUM_SIZES v_SUM_SIZES0 ⟨_, rfl⟩ fix_int
    · exact tab1 (v := .int 2) lt_SUM_SIZES kl_SUM_SIZES v_SUM_SIZES1 ⟨_, rfl⟩ fix_int
    · exact tab1 (v := .int 2) lt_SUM_SIZES kl_SUM_SIZES v_SUM_SIZES2 ⟨_, rfl⟩ fix_int
  have D0 := d_is_whole (P := l.prog) (w := w) (base := base) A0 Z_isinstance Z_int Z_bool
  have D1 := d_sum_size (P := l.prog) (w := w) (base := base) A1 (PySem.W.mg_of X G g_SUM_SIZES) T_SUM_SIZES
  have D2 := d_mixed_on (P := l.prog) (w := w) (base := base) A2
  have D3 := d__law_left (P := l.prog) (w := w) (base := base) A3 Z_abs Z_range
  have D4 := d__law_digit (P := l.prog) (w := w) (base := base) A4
  have D5 := d__law_plain (P := l.prog) (w := w) (base := base) A5
  have D6 := d__law_placed (P := l.prog) (w := w) (base := base) A6 Z_range Z_len
  have D7 := d__law_mixed (P := l.prog) (w := w) (base := base) A7
  have D8 := d_is_number (P := l.prog) (w := w) (base := base) A8 D0
  have D9 := d_sum_by (P := l.prog) (w := w) (base := base) A9 Z_sum Z_enumerate (PySem.W.mg_of X G g_MIXED_BEGIN) D2
  have D10 := d_bytes_of (P := l.prog) (w := w) (base := base) A10 R_NoNumber Z_tuple Z_range D8
  have D11 := d_sum_bytes (P := l.prog) (w := w) (base := base) A11 D10 D9 D1
  have D12 := d__law_right (P := l.prog) (w := w) (base := base) A12 Z_repr Z_len Z_isinstance Z_bool D5 D6 D7 D9 D11 D1
  exact d_law A13 Z_tuple Z_range Z_len D12 D3 D4 D9

end K02
end

section
open PySem PySem.W PyProof.Rows
set_option maxHeartbeats 0 in
theorem PySem.Challenge.cw_letterbench_k02_sums_of_bytes_holds : PySem.Challenge.rw_letterbench_k02_sums_of_bytes.Holds := by
  w_on; o_law; k_head; (case hw => w_witness2)
  k_fill
  refine Mi.walk_m (l := PySem.Challenge.rw_letterbench_k02_sums_of_bytes) (n := 63) (k := 6) (x := "_law_script") (m := K02.m_law) rfl (by decide) rfl ⟨rfl, by decide, by decide⟩ (fun w h Y => PySem.W.kIn_of Y) ?F (fun ns hn hb => K02.law_true ns hn)
  case F =>
    intro w mg fa h KX G hmg
    refine' K02.all_mk KX G hmg (a0 := ?a0) (l0 := ?l0) (c0 := ?c0) (k0 := ?k0) (a1 := ?a1) (l1 := ?l1) (c1 := ?c1) (k1 := ?k1) (a2 := ?a2) (l2 := ?l2) (c2 := ?c2) (k2 := ?k2) (a3 := ?a3) (l3 := ?l3) (c3 := ?c3) (k3 := ?k3) (a4 := ?a4) (l4 := ?l4) (c4 := ?c4) (k4 := ?k4) (a5 := ?a5) (l5 := ?l5) (c5 := ?c5) (k5 := ?k5) (a6 := ?a6) (l6 := ?l6) (c6 := ?c6) (k6 := ?k6) (a7 := ?a7) (l7 := ?l7) (c7 := ?c7) (k7 := ?k7) (a8 := ?a8) (l8 := ?l8) (c8 := ?c8) (k8 := ?k8) (a9 := ?a9) (l9 := ?l9) (c9 := ?c9) (k9 := ?k9) (a10 := ?a10) (l10 := ?l10) (c10 := ?c10) (k10 := ?k10) (d10 := ?d10) (a11 := ?a11) (l11 := ?l11) (c11 := ?c11) (k11 := ?k11) (a12 := ?a12) (l12 := ?l12) (c12 := ?c12) (k12 := ?k12) (a13 := ?a13) (l13 := ?l13) (c13 := ?c13) (k13 := ?k13) (g_SUM_SIZES := ?g_SUM_SIZES) (lt_SUM_SIZES := ?lt_SUM_SIZES) (v_SUM_SIZES0 := ?v_SUM_SIZES0) (v_SUM_SIZES1 := ?v_SUM_SIZES1) (v_SUM_SIZES2 := ?v_SUM_SIZES2) (z_isinstance := ?z_isinstance) (z_int := ?z_int) (z_bool := ?z_bool) (z_abs := ?z_abs) (z_range := ?z_range) (z_len := ?z_len) (z_sum := ?z_sum) (z_enumerate := ?z_enumerate) (z_tuple := ?z_tuple) (z_repr := ?z_repr) (g_MIXED_BEGIN := ?g_MIXED_BEGIN) (n_NoNumber := ?n_NoNumber) (kk_NoNumber := ?kk_NoNumber) (ty_NoNumber := ?ty_NoNumber) (sb_NoNumber := ?sb_NoNumber) (e_NoNumber := ?e_NoNumber) (kl_SUM_SIZES := ?kl_SUM_SIZES)
    (case a0 => k_is)
    (case l0 => k_is)
    (case c0 => k_is)
    (case k0 => k_is)
    (case a1 => k_is)
    (case l1 => k_is)
    (case c1 => k_is)
    (case k1 => k_is)
    (case a2 => k_is)
    (case l2 => k_is)
    (case c2 => k_is)
    (case k2 => k_is)
    (case a3 => k_is)
    (case l3 => k_is)
    (case c3 => k_is)
    (case k3 => k_is)
    (case a4 => k_is)
    (case l4 => k_is)
    (case c4 => k_is)
    (case k4 => k_is)
    (case a5 => k_is)
    (case l5 => k_is)
    (case c5 => k_is)
    (case k5 => k_is)
    (case a6 => k_is)
    (case l6 => k_is)
    (case c6 => k_is)
    (case k6 => k_is)
    (case a7 => k_is)
    (case l7 => k_is)
    (case c7 => k_is)
    (case k7 => k_is)
    (case a8 => k_is)
    (case l8 => k_is)
    (case c8 => k_is)
    (case k8 => k_is)
    (case a9 => k_is)
    (case l9 => k_is)
    (case c9 => k_is)
    (case k9 => k_is)
    (case a10 => k_is)
    (case l10 => k_is)
    (case c10 => k_is)
    (case k10 => k_is)
    (case d10 => k_is)
    (case a11 => k_is)
    (case l11 => k_is)
    (case c11 => k_is)
    (case k11 => k_is)
    (case a12 => k_is)
    (case l12 => k_is)
    (case c12 => k_is)
    (case k12 => k_is)
    (case a13 => k_is)
    (case l13 => k_is)
    (case c13 => k_is)
    (case k13 => k_is)
    (case g_SUM_SIZES => k_is)
    (case lt_SUM_SIZES => k_is)
    (case v_SUM_SIZES0 => k_is)
    (case v_SUM_SIZES1 => k_is)
    (case v_SUM_SIZES2 => k_is)
    (case z_isinstance => k_is)
    (case z_int => k_is)
    (case z_bool => k_is)
    (case z_abs => k_is)
    (case z_range => k_is)
    (case z_len => k_is)
    (case z_sum => k_is)
    (case z_enumerate => k_is)
    (case z_tuple => k_is)
    (case z_repr => k_is)
    (case g_MIXED_BEGIN => k_is)
    (case n_NoNumber => k_is)
    (case kk_NoNumber => k_is)
    (case ty_NoNumber => k_is)
    (case sb_NoNumber => k_is)
    (case e_NoNumber => k_exc)
    (case kl_SUM_SIZES => exact ⟨⟨_, _, rfl, rfl⟩, ⟨_, _, rfl, rfl⟩, ⟨_, _, rfl, rfl⟩, trivial⟩)

end
