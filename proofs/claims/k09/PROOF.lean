import PyProof.Rows.All
import Wide.All
import OpenK.AllK
import Wide.FinOn
import HandS.ForMost
import HandS.ForExc
import HandS.ExcInit
import HandS.IsInst
import HandS.TupAny
import HandS.TupMul
import HandS.Deep
import HandS.SetKeys
import HandS.Wide
import HandS.Flow
import HandS.Style
import HandS.Lambda
import HandS.Star
import HandS.WordsDict
import KE.GoesMore
import KE.GoesZip
import HandS.Zip
import HandS.Strs
import HandS.TupSets
import HandS.ExcField
import HandS.ExcValue
import KE.KExcInit
import HandS.TryOnly
import HandS.TryElse
import HandS.EndOwn
import HandS.ExcIs
import PySem.PyData
import KE.KExcLine
import PySem.Challenge.RW_snowsure_k09_refused_cities
set_option Elab.async false
set_option linter.all false
set_option maxRecDepth 100000
set_option maxHeartbeats 1000000
namespace Mi
open PySem PySem.Spec PyProof.Rows L2
abbrev T := PyData
abbrev Ad := List (Option Addr)
/-! ### what stands for what -/
def keyT : T → Option Key
  | .int i => some (.inl i)
  | .str x => some (.inr x)
  | _ => none
mutual
def Rp (H : Hp) (ad : Ad) : V → T → Prop
  | v, .none => v = .non
  | v, .bool b => v = .bl b
  | v, .int i => v = .int i
  | v, .str x => v = .str x
  | v, .tuple ts => ∃ a xs, v = .ref a ∧ H a = some (.tup xs) ∧ some a ∉ ad ∧ Rps H ad xs ts
  | v, .list ts => ∃ a xs, v = .ref a ∧ H a = some (.lst xs) ∧ some a ∉ ad ∧ Rps H ad xs ts
  | v, .dict kvs => ∃ a kk, v = .ref a ∧ Rd H a (.dK kk) ∧ some a ∉ ad ∧ RpKs H ad kk kvs
def Rps (H : Hp) (ad : Ad) : List V → List T → Prop
  | xs, [] => xs = []
  | xs, t :: ts => ∃ x r, xs = x :: r ∧ Rp H ad x t ∧ Rps H ad r ts
def RpKs (H : Hp) (ad : Ad) : List (Key × V) → List (T × T) → Prop
  | kk, [] => kk = []
  | kk, (k, t) :: ts => ∃ k' x r, kk = (k', x) :: r ∧ keyT k = some k' ∧ Rp H ad x t ∧ RpKs H ad r ts
end
/-- what is fixed while a law runs: its code object's table, the name of its lambdas -/
class TbC where
  tb : Option (Addr × Str)
variable [TbC]
/-- a thing that is no table -/
def Nt (H : Hp) (a : Addr) : Prop := ∃ o, H a = some o ∧ ∀ ps, o ≠ .tbl ps
theorem Nt.of {H : Hp} {a : Addr} {o : HO} (h : H a = some o) (n : ∀ ps, o ≠ .tbl ps) : Nt H a := ⟨o, h, n⟩
/-- a code object's table at P: what it tells bears the name q, and lies in no cell -/
def TabC (H : Hp) (ad : Ad) (P : Addr) (q : Str) : Prop := ∃ ps : Array Value, H P = some (.tbl ps) ∧ TriplesOk ps.toList ∧ ∀ (pos : Pos) (cv : Value), codeAmong pos ps.toList = some cv → ∃ c, cv = .ref c ∧ H c = some (LamX.CodeO c q) ∧ some c ∉ ad
/-- from one state to a later one -/
structure Ex (H : Hp) (ad : Ad) (H' : Hp) (ad' : Ad) : Prop where
  keep : ∀ a o, H a = some o → some a ∉ ad → (∀ ps, o ≠ .tbl ps) → H' a = some o
  tab : ∀ P q, TbC.tb = some (P, q) → TabC H ad P q → TabC H' ad' P q
  there : ∀ a, Nt H a → Nt H' a
  len : ad.length ≤ ad'.length
  old : ∀ i a, ad'[i]? = some (some a) → i < ad.length → ad[i]? = some (some a)
  new : ∀ i a, ad'[i]? = some (some a) → ad.length ≤ i → ¬ Nt H a
theorem Ex.refl {H : Hp} {ad : Ad} : Ex H ad H ad := ⟨fun _ _ e _ _ => e, fun _ _ _ h => h, fun _ e => e, Nat.le_refl _, fun _ _ e _ => e, fun i a e h => by
  have := (List.getElem?_eq_some_iff.mp e).1; omega⟩
theorem Ex.live {H H' : Hp} {ad ad' : Ad} (e : Ex H ad H' ad') {a : Addr} (h : some a ∉ ad) (t : Nt H a) : some a ∉ ad' := fun hm => by
  obtain ⟨i, hi⟩ := List.mem_iff_getElem?.mp hm
  rcases Nat.lt_or_ge i ad.length with hl | hl
  · exact h (List.mem_iff_getElem?.mpr ⟨i, e.old i a hi hl⟩)
  · exact e.new i a hi hl t
theorem Ex.trans {H H1 H2 : Hp} {ad ad1 ad2 : Ad} (e : Ex H ad H1 ad1) (f : Ex H1 ad1 H2 ad2) : Ex H ad H2 ad2 where
  keep := fun a o q n t => f.keep a o (e.keep a o q n t) (e.live n ⟨o, q, t⟩) t
  tab := fun P q z h => f.tab P q z (e.tab P q z h)
  there := fun a q => f.there a (e.there a q)
  len := Nat.le_trans e.len f.len
  old := fun i a q h => e.old i a (f.old i a q (Nat.lt_of_lt_of_le h e.len)) h
  new := fun i a q h => by
    rcases Nat.lt_or_ge i ad1.length with hl | hl
    · exact e.new i a (f.old i a q hl) h
    · exact fun z => f.new i a q hl (e.there a z)
theorem rdNe {H : Hp} {a : Addr} {u : HO} (r : Rd H a u) (n : ∀ ps, u ≠ .tbl ps) : Nt H a := by
  rcases r with r | ⟨o, r⟩
  · exact ⟨_, r, n⟩
  · exact ⟨_, r, fun _ z => by cases z⟩
theorem rdEx {H H' : Hp} {ad ad' : Ad} {a : Addr} {u : HO} (r : Rd H a u) (n : some a ∉ ad) (nt : ∀ ps, u ≠ .tbl ps) (e : Ex H ad H' ad') : Rd H' a u := by
  rcases r with r | ⟨o, r⟩
  · exact .inl (e.keep a _ r n nt)
  · exact .inr ⟨o, e.keep a _ r n (fun _ z => by cases z)⟩
mutual
theorem Rp.mono {H H' : Hp} {ad ad' : Ad} (e : Ex H ad H' ad') : ∀ (t : T) (v : V), Rp H ad v t → Rp H' ad' v t
  | .none, _, h => h
  | .bool _, _, h => h
  | .int _, _, h => h
  | .str _, _, h => h
  | .tuple ts, _, ⟨a, xs, h1, h2, h3, h4⟩ => ⟨a, xs, h1, e.keep a _ h2 h3 (fun _ z => by cases z), e.live h3 ⟨_, h2, fun _ z => by cases z⟩, Rps.mono e ts xs h4⟩
  | .list ts, _, ⟨a, xs, h1, h2, h3, h4⟩ => ⟨a, xs, h1, e.keep a _ h2 h3 (fun _ z => by cases z), e.live h3 ⟨_, h2, fun _ z => by cases z⟩, Rps.mono e ts xs h4⟩
  | .dict kvs, _, ⟨a, kk, h1, h2, h3, h4⟩ => ⟨a, kk, h1, rdEx h2 h3 (fun _ z => by cases z) e, e.live h3 (rdNe h2 (fun _ z => by cases z)), RpKs.mono e kvs kk h4⟩
theorem Rps.mono {H H' : Hp} {ad ad' : Ad} (e : Ex H ad H' ad') : ∀ (ts : List T) (xs : List V), Rps H ad xs ts → Rps H' ad' xs ts
  | [], _, h => h
  | t :: ts, _, ⟨x, r, h1, h2, h3⟩ => ⟨x, r, h1, Rp.mono e t x h2, Rps.mono e ts r h3⟩
theorem RpKs.mono {H H' : Hp} {ad ad' : Ad} (e : Ex H ad H' ad') : ∀ (ts : List (T × T)) (xs : List (Key × V)), RpKs H ad xs ts → RpKs H' ad' xs ts
  | [], _, h => h
  | (_, t) :: ts, _, ⟨k, x, r, h1, h2, h3, h4⟩ => ⟨k, x, r, h1, h2, Rp.mono e t x h3, RpKs.mono e ts r h4⟩
end
mutual
theorem Rp.sub {H : Hp} {ad ad' : Ad} (k : ∀ a : Addr, some a ∉ ad → some a ∉ ad') : ∀ (t : T) (v : V), Rp H ad v t → Rp H ad' v t
  | .none, _, h => h
  | .bool _, _, h => h
  | .int _, _, h => h
  | .str _, _, h => h
  | .tuple ts, _, ⟨a, xs, h1, h2, h3, h4⟩ => ⟨a, xs, h1, h2, k a h3, Rps.sub k ts xs h4⟩
  | .list ts, _, ⟨a, xs, h1, h2, h3, h4⟩ => ⟨a, xs, h1, h2, k a h3, Rps.sub k ts xs h4⟩
  | .dict kvs, _, ⟨a, kk, h1, h2, h3, h4⟩ => ⟨a, kk, h1, h2, k a h3, RpKs.sub k kvs kk h4⟩
theorem Rps.sub {H : Hp} {ad ad' : Ad} (k : ∀ a : Addr, some a ∉ ad → some a ∉ ad') : ∀ (ts : List T) (xs : List V), Rps H ad xs ts → Rps H ad' xs ts
  | [], _, h => h
  | t :: ts, _, ⟨x, r, h1, h2, h3⟩ => ⟨x, r, h1, Rp.sub k t x h2, Rps.sub k ts r h3⟩
theorem RpKs.sub {H : Hp} {ad ad' : Ad} (k : ∀ a : Addr, some a ∉ ad → some a ∉ ad') : ∀ (ts : List (T × T)) (xs : List (Key × V)), RpKs H ad xs ts → RpKs H ad' xs ts
  | [], _, h => h
  | (_, t) :: ts, _, ⟨j, x, r, h1, h2, h3, h4⟩ => ⟨j, x, r, h1, h2, Rp.sub k t x h3, RpKs.sub k ts r h4⟩
end
theorem Rps.len {H : Hp} {ad : Ad} : ∀ {ts : List T} {xs : List V}, Rps H ad xs ts → xs.length = ts.length
  | [], xs, h => by have h : xs = [] := h; subst h; rfl
  | t :: ts, _, ⟨x, r, h1, h2, h3⟩ => by rw [h1, List.length_cons, List.length_cons, Rps.len h3]
theorem Rps.get {H : Hp} {ad : Ad} : ∀ {ts : List T} {xs : List V} {i : Nat} {t : T}, Rps H ad xs ts → ts[i]? = some t → ∃ x, xs[i]? = some x ∧ Rp H ad x t
  | [], _, _, _, _, e => by simp at e
  | t :: ts, _, 0, _, ⟨x, r, h1, h2, h3⟩, e => by simp at e; subst e; exact ⟨x, by rw [h1]; rfl, h2⟩
  | t :: ts, _, i + 1, u, ⟨x, r, h1, h2, h3⟩, e => by
    obtain ⟨y, q1, q2⟩ := Rps.get (i := i) (t := u) h3 (by simpa using e)
    exact ⟨y, by rw [h1]; simpa using q1, q2⟩
theorem Rps.get' {H : Hp} {ad : Ad} {ts : List T} {xs : List V} {i : Nat} {x : V} (h : Rps H ad xs ts) (e : xs[i]? = some x) : ∃ t, ts[i]? = some t ∧ Rp H ad x t := by
  have hl := (List.getElem?_eq_some_iff.mp e).1
  rw [h.len] at hl
  obtain ⟨y, q1, q2⟩ := h.get (i := i) (t := ts[i]) (by simp [hl])
  rw [e] at q1; cases q1
  exact ⟨_, by simp [hl], q2⟩
theorem Rps.append {H : Hp} {ad : Ad} : ∀ {ts us : List T} {xs ys : List V}, Rps H ad xs ts → Rps H ad ys us → Rps H ad (xs ++ ys) (ts ++ us)
  | [], _, xs, _, h, k => by have h : xs = [] := h; subst h; exact k
  | t :: ts, _, _, _, ⟨x, r, h1, h2, h3⟩, k => ⟨x, r ++ _, by rw [h1]; rfl, h2, Rps.append h3 k⟩
theorem Rps.take {H : Hp} {ad : Ad} : ∀ {ts : List T} {xs : List V} (n : Nat), Rps H ad xs ts → Rps H ad (xs.take n) (ts.take n)
  | _, _, 0, _ => by simp [Rps]
  | [], xs, _ + 1, h => by have h : xs = [] := h; subst h; simp [Rps]
  | t :: ts, _, n + 1, ⟨x, r, h1, h2, h3⟩ => ⟨x, r.take n, by rw [h1]; rfl, h2, Rps.take n h3⟩
theorem Rps.drop {H : Hp} {ad : Ad} : ∀ {ts : List T} {xs : List V} (n : Nat), Rps H ad xs ts → Rps H ad (xs.drop n) (ts.drop n)
  | _, _, 0, h => by simpa using h
  | [], xs, _ + 1, h => by have h : xs = [] := h; subst h; simp [Rps]
  | t :: ts, _, n + 1, ⟨x, r, h1, h2, h3⟩ => by rw [h1]; exact Rps.drop n h3
theorem Rps.set {H : Hp} {ad : Ad} {x : V} {t : T} (r : Rp H ad x t) : ∀ {ts : List T} {xs : List V} (i : Nat), Rps H ad xs ts → Rps H ad (xs.set i x) (ts.set i t)
  | [], xs, _, h => by have h : xs = [] := h; subst h; simp [Rps]
  | u :: ts, _, 0, ⟨y, q, h1, h2, h3⟩ => ⟨x, q, by rw [h1]; rfl, r, h3⟩
  | u :: ts, _, i + 1, ⟨y, q, h1, h2, h3⟩ => ⟨y, q.set i x, by rw [h1]; rfl, h2, Rps.set r i h3⟩
theorem Rps.one {H : Hp} {ad : Ad} {x : V} {t : T} (r : Rp H ad x t) : Rps H ad [x] [t] := ⟨x, [], rfl, r, rfl⟩
/-! ### what is read off the real heap -/
mutual
/-- no dict within -/
def plain : T → Bool
  | .none => true | .bool _ => true | .int _ => true | .str _ => true
  | .tuple ts => plains ts
  | .list ts => plains ts
  | .dict _ => false
def plains : List T → Bool
  | [] => true
  | t :: ts => plain t && plains ts
end
mutual
theorem Rp.reads {P : Program} {w : World} {H : Hp} {ad : Ad} {h : Heap} (ok : HOk P w H h) : ∀ (t : T) (v : V) (u : Value), Rp H ad v t → RelV v u → plain t = true → ∃ as, Reads h u t as
  | .none, v, _, hv, r, _ => by have hv : v = V.non := hv; subst hv; cases r; exact ⟨[], .none⟩
  | .bool b, v, _, hv, r, _ => by have hv : v = V.bl b := hv; subst hv; cases r; exact ⟨[], .bool b⟩
  | .int i, v, _, hv, r, _ => by have hv : v = V.int i := hv; subst hv; obtain ⟨t, rfl⟩ := r; exact ⟨[], .int i t⟩
  | .str x, v, _, hv, r, _ => by have hv : v = V.str x := hv; subst hv; obtain ⟨t, rfl⟩ := r; exact ⟨[], .str x t⟩
  | .tuple ts, _, _, ⟨a, xs, h1, h2, h3, h4⟩, r, hp => by
    rw [h1] at r; cases r
    obtain ⟨z, its, rv, o, e, c, n, d⟩ := ok a _ h2
    obtain ⟨as, q⟩ := Rps.reads ok ts xs its h4 rv hp
    exact ⟨as, .tuple e c d (by simpa using q)⟩
  | .list ts, _, _, ⟨a, xs, h1, h2, h3, h4⟩, r, hp => by
    rw [h1] at r; cases r
    obtain ⟨z, its, n, rv, e⟩ := ok a _ h2
    obtain ⟨as, q⟩ := Rps.reads ok ts xs its h4 rv hp
    exact ⟨_, .list e rfl rfl (by simpa using q)⟩
  | .dict kvs, _, _, _, _, hp => by simp [plain] at hp
theorem Rps.reads {P : Program} {w : World} {H : Hp} {ad : Ad} {h : Heap} (ok : HOk P w H h) : ∀ (ts : List T) (xs : List V) (us : List Value), Rps H ad xs ts → Vals xs us → plains ts = true → ∃ as, ReadsAll h us ts as
  | [], xs, _, hv, r, _ => by have hv : xs = [] := hv; subst hv; cases r; exact ⟨[], .nil⟩
  | t :: ts, _, _, ⟨x, q, h1, h2, h3⟩, r, hp => by
    rw [h1] at r
    simp only [plains, Bool.and_eq_true] at hp
    cases r with
    | cons r1 r2 =>
      obtain ⟨as, q1⟩ := Rp.reads ok t x _ h2 r1 hp.1
      obtain ⟨bs, q2⟩ := Rps.reads ok ts q _ h3 r2 hp.2
      exact ⟨as ++ bs, .cons q1 q2⟩
end
mutual
theorem Rp.dp {K : PySem.W.Frag} {H : Hp} {ad : Ad} : ∀ (t : T) (v : V), Rp H ad v t → plain t = true → Dp K H v t
  | .none, v, hv, _ => by have hv : v = V.non := hv; subst hv; exact .non
  | .bool b, v, hv, _ => by have hv : v = V.bl b := hv; subst hv; exact .bl b
  | .int i, v, hv, _ => by have hv : v = V.int i := hv; subst hv; exact .int i
  | .str x, v, hv, _ => by have hv : v = V.str x := hv; subst hv; exact .str x
  | .tuple ts, _, ⟨a, xs, h1, h2, h3, h4⟩, hp => by subst h1; exact .tup (SqT.of h2) (Rps.dp ts xs h4 hp)
  | .list ts, _, ⟨a, xs, h1, h2, h3, h4⟩, hp => by subst h1; exact .lst (SqL.of h2) (Rps.dp ts xs h4 hp)
  | .dict _, _, _, hp => by simp [plain] at hp
theorem Rps.dp {K : PySem.W.Frag} {H : Hp} {ad : Ad} : ∀ (ts : List T) (xs : List V), Rps H ad xs ts → plains ts = true → DpAll K H xs ts
  | [], xs, h, _ => by have h : xs = [] := h; subst h; exact .nil
  | t :: ts, _, ⟨x, r, h1, h2, h3⟩, hp => by
    simp only [plains, Bool.and_eq_true] at hp
    subst h1
    exact .cons (Rp.dp t x h2 hp.1) (Rps.dp ts r h3 hp.2)
end
/-- what is looked at: its own place may be one that changes -/
def Pk (H : Hp) (ad : Ad) (v : V) : T → Prop
  | .list ts => ∃ a xs, v = .ref a ∧ H a = some (.lst xs) ∧ Rps H ad xs ts
  | .dict kvs => ∃ a kk, v = .ref a ∧ Rd H a (.dK kk) ∧ RpKs H ad kk kvs
  | .none => Rp H ad v .none
  | .bool b => Rp H ad v (.bool b)
  | .int i => Rp H ad v (.int i)
  | .str x => Rp H ad v (.str x)
  | .tuple ts => Rp H ad v (.tuple ts)
theorem Rp.pk {H : Hp} {ad : Ad} {v : V} : ∀ {t : T}, Rp H ad v t → Pk H ad v t
  | .none, h => h | .bool _, h => h | .int _, h => h | .str _, h => h | .tuple _, h => h
  | .list ts, ⟨a, xs, h1, h2, _, h4⟩ => ⟨a, xs, h1, h2, h4⟩
  | .dict ts, ⟨a, xs, h1, h2, _, h4⟩ => ⟨a, xs, h1, h2, h4⟩
theorem Pk.dp {K : PySem.W.Frag} {H : Hp} {ad : Ad} {v : V} : ∀ {t : T}, Pk H ad v t → plain t = true → Dp K H v t
  | .none, h, hp => Rp.dp (ad := ad) _ _ h hp | .bool _, h, hp => Rp.dp (ad := ad) _ _ h hp | .int _, h, hp => Rp.dp (ad := ad) _ _ h hp | .str _, h, hp => Rp.dp (ad := ad) _ _ h hp | .tuple _, h, hp => Rp.dp (ad := ad) _ _ h hp
  | .list ts, ⟨a, xs, h1, h2, h4⟩, hp => by subst h1; exact .lst (SqL.of h2) (Rps.dp ts xs h4 hp)
  | .dict _, _, hp => by simp [plain] at hp
end Mi
set_option Elab.async false
set_option linter.all false
set_option maxRecDepth 100000
set_option maxHeartbeats 1000000
set_option autoImplicit false
namespace Mi
open PySem PySem.Spec PyProof.Rows L2
variable [TbC]
/-! ### cells, values of names, outcomes -/
inductive C where
  | dead
  | lst (ts : List T)
  | dct (kvs : List (T × T))
  | lock (ts : List T)
abbrev Cs := List C
/-- an exception: the class's number, its own dict -/
structure Xc where
  cls : Nat
  flds : List (Str × T)
inductive SV where
  | t (t : T)
  | c (i : Nat)
  | x (x : Xc)
inductive R (α : Type) where
  | ok (a : α) (cs : Cs)
  | ex (x : Xc) (cs : Cs)
  | bad
def R.bind {α β : Type} (r : R α) (k : α → Cs → R β) : R β :=
  match r with
  | .ok a cs => k a cs
  | .ex x cs => .ex x cs
  | .bad => .bad
theorem R.bind_assoc {α β γ : Type} (r : R α) (k : α → Cs → R β) (j : β → Cs → R γ) : (r.bind k).bind j = r.bind fun a c => (k a c).bind j := by cases r <;> rfl
abbrev Sl := List (Option SV)
abbrev D (α : Type) := Sl → Cs → R α
/-- what a name's value is as data -/
def res (r : SV) (cs : Cs) : Option T :=
  match r with
  | .t t => some t
  | .c i => match cs[i]? with
    | some (.lst ts) => some (.list ts)
    | some (.lock ts) => some (.list ts)
    | some (.dct kvs) => some (.dict kvs)
    | _ => none
  | .x _ => none
/-- what is fixed in a program: the errors' classes; what is being handled -/
structure G where
  cl : Nat → Addr
  xi : Option (Addr × Value × Option Addr) := none
def Cl (H : Hp) (ad : Ad) : Option Addr → C → Prop
  | none, .dead => True
  | some a, .lst ts => ∃ xs, H a = some (.lst xs) ∧ Rps H ad xs ts
  | some a, .lock ts => ∃ xs, H a = some (.lst xs) ∧ Rps H ad xs ts
  | some a, .dct kvs => ∃ kk, H a = some (.dK kk) ∧ RpKs H ad kk kvs
  | _, _ => False
structure CsR (H : Hp) (ad : Ad) (cs : Cs) : Prop where
  len : ad.length = cs.length
  inj : ∀ (i j : Nat) (a : Addr), ad[i]? = some (some a) → ad[j]? = some (some a) → i = j
  cell : ∀ (i : Nat) (o : Option Addr) (c : C), ad[i]? = some o → cs[i]? = some c → Cl H ad o c
def RpF (H : Hp) (ad : Ad) : List (Str × V) → List (Str × T) → Prop
  | fs, [] => fs = []
  | fs, (f, t) :: ts => ∃ x r, fs = (f, x) :: r ∧ Rp H ad x t ∧ RpF H ad r ts
theorem RpF.mono {H H' : Hp} {ad ad' : Ad} (e : Ex H ad H' ad') : ∀ (ts : List (Str × T)) (xs : List (Str × V)), RpF H ad xs ts → RpF H' ad' xs ts
  | [], _, h => h
  | (_, t) :: ts, _, ⟨x, r, h1, h2, h3⟩ => ⟨x, r, h1, Rp.mono e t x h2, RpF.mono e ts r h3⟩
def XcR (g : G) (H : Hp) (ad : Ad) (x : Xc) (cls : Value) (dd : Option Addr) : Prop :=
  cls = .ref (g.cl x.cls) ∧ ∃ d fs, dd = some d ∧ some d ∉ ad ∧ H d = some (.xd fs) ∧ RpF H ad fs x.flds
theorem XcR.mono {g : G} {H H' : Hp} {ad ad' : Ad} {x : Xc} {cls : Value} {dd : Option Addr} (e : Ex H ad H' ad') (h : XcR g H ad x cls dd) : XcR g H' ad' x cls dd := by
  obtain ⟨h1, d, fs, h2, h3, h4, h5⟩ := h
  exact ⟨h1, d, fs, h2, e.live h3 ⟨_, h4, fun _ z => by cases z⟩, e.keep d _ h4 h3 (fun _ z => by cases z), RpF.mono e _ _ h5⟩
def SvR (g : G) (H : Hp) (ad : Ad) : V → SV → Prop
  | v, .t t => Rp H ad v t
  | v, .c i => i < ad.length ∧ ∀ a, ad[i]? = some (some a) → v = .ref a
  | v, .x x => ∃ a cls dd, g.xi = some (a, cls, dd) ∧ v = .ref a ∧ XcR g H ad x cls dd
theorem SvR.mono {g : G} {H H' : Hp} {ad ad' : Ad} (e : Ex H ad H' ad') : ∀ {v : V} {r : SV}, SvR g H ad v r → SvR g H' ad' v r
  | _, .t t, h => Rp.mono e t _ h
  | _, .c i, ⟨h1, h2⟩ => ⟨Nat.lt_of_lt_of_le h1 e.len, fun a q => h2 a (e.old i a q h1)⟩
  | _, .x x, ⟨a, cls, dd, h1, h2, h3⟩ => ⟨a, cls, dd, h1, h2, h3.mono e⟩
def SvsR (g : G) (H : Hp) (ad : Ad) : List V → List SV → Prop
  | vs, [] => vs = []
  | vs, r :: rs => ∃ v q, vs = v :: q ∧ SvR g H ad v r ∧ SvsR g H ad q rs
theorem SvsR.mono {g : G} {H H' : Hp} {ad ad' : Ad} (e : Ex H ad H' ad') : ∀ {rs : List SV} {vs : List V}, SvsR g H ad vs rs → SvsR g H' ad' vs rs
  | [], _, h => h
  | _ :: _, _, ⟨v, q, h1, h2, h3⟩ => ⟨v, q, h1, h2.mono e, SvsR.mono e h3⟩
structure StR (g : G) (H : Hp) (ad : Ad) (σ : L2.St) (sl : Sl) : Prop where
  len : σ.length = sl.length
  at_ : ∀ (i : Nat) (r : SV), sl[i]? = some (some r) → ∃ v, σ[i]? = some (some v) ∧ SvR g H ad v r
  tb : ∀ P q, TbC.tb = some (P, q) → TabC H ad P q
theorem StR.mono {g : G} {H H' : Hp} {ad ad' : Ad} {σ : L2.St} {sl : Sl} (e : Ex H ad H' ad') (h : StR g H ad σ sl) : StR g H' ad' σ sl :=
  ⟨h.len, fun i r q => let ⟨v, h1, h2⟩ := h.at_ i r q; ⟨v, h1, h2.mono e⟩, fun P q z => e.tab P q z (h.tb P q z)⟩
theorem StR.set {g : G} {H : Hp} {ad : Ad} {σ : L2.St} {sl : Sl} {v : V} {r : SV} {i : Nat} (h : StR g H ad σ sl) (q : SvR g H ad v r) : StR g H ad (σ.set i (some v)) (sl.set i (some r)) := by
  refine ⟨by simp [h.len], fun j r' e => ?_, h.tb⟩
  rw [List.getElem?_set] at e
  by_cases hj : i = j
  · subst hj
    rw [if_pos rfl] at e
    split at e
    · cases e
      rename_i hl
      exact ⟨v, by rw [List.getElem?_set, if_pos rfl, if_pos (by rw [h.len]; exact hl)], q⟩
    · cases e
  · rw [if_neg hj] at e
    obtain ⟨v', h1, h2⟩ := h.at_ j r' e
    exact ⟨v', by rw [List.getElem?_set, if_neg hj]; exact h1, h2⟩
/-! ### readings by denotation -/
section
variable {α β γ δ : Type}
def Aft (g : G) (W : WX) (σ : L2.St) (rel : Hp → Ad → β → α → Prop) (H : Hp) (ad : Ad) (r : R α) (Q : β → Hp → Prop) : Prop :=
  match r with
  | .ok a cs' => ∀ b H' ad', Ex H ad H' ad' → CsR H' ad' cs' → rel H' ad' b a → Q b H'
  | .ex x cs' => ∀ cls dd H' ad', Ex H ad H' ad' → CsR H' ad' cs' → XcR g H' ad' x cls dd → W cls dd σ H'
  | .bad => False
def rd (g : G) (W : WX) (rel : Hp → Ad → β → α → Prop) (d : D α) (σ : L2.St) (H : Hp) (Q : β → Hp → Prop) : Prop :=
  ∃ sl cs ad, StR g H ad σ sl ∧ CsR H ad cs ∧ Aft g W σ rel H ad (d sl cs) Q
theorem Aft.bind {g : G} {W : WX} {σ : L2.St} {rel : Hp → Ad → β → α → Prop} {rel2 : Hp → Ad → δ → γ → Prop} {H : Hp} {ad : Ad} {r : R α} {k : α → Cs → R γ} {Q : δ → Hp → Prop} {Q' : β → Hp → Prop}
    (h : Aft g W σ rel2 H ad (r.bind k) Q) (f : ∀ b a cs1 H1 ad1, Ex H ad H1 ad1 → CsR H1 ad1 cs1 → rel H1 ad1 b a → Aft g W σ rel2 H1 ad1 (k a cs1) Q → Q' b H1) : Aft g W σ rel H ad r Q' := by
  cases r with
  | bad => exact h
  | ex x cs => exact h
  | ok a cs =>
    intro b H1 ad1 e c s
    refine f b a cs H1 ad1 e c s ?_
    have h' : Aft g W σ rel2 H ad (k a cs) Q := h
    revert h'
    cases k a cs with
    | bad => exact id
    | ex x cs2 => exact fun h cls dd H' ad' e' c' x' => h cls dd H' ad' (e.trans e') c' x'
    | ok a2 cs2 => exact fun h b2 H' ad' e' c' s' => h b2 H' ad' (e.trans e') c' s'
theorem Aft.imp {g : G} {W : WX} {σ : L2.St} {rel : Hp → Ad → β → α → Prop} {H : Hp} {ad : Ad} {r : R α} {Q Q' : β → Hp → Prop} (h : Aft g W σ rel H ad r Q) (f : ∀ b H, Q b H → Q' b H) : Aft g W σ rel H ad r Q' := by
  cases r with
  | bad => exact h
  | ex x cs => exact h
  | ok a cs => exact fun b H' ad' e c s => f _ _ (h b H' ad' e c s)
/-- from a later state -/
theorem Aft.later {g : G} {W : WX} {σ : L2.St} {rel : Hp → Ad → β → α → Prop} {H H1 : Hp} {ad ad1 : Ad} {r : R α} {Q : β → Hp → Prop} (e : Ex H ad H1 ad1) (h : Aft g W σ rel H ad r Q) : Aft g W σ rel H1 ad1 r Q := by
  cases r with
  | bad => exact h
  | ex x cs => exact fun cls dd H' ad' e' c' x' => h cls dd H' ad' (e.trans e') c' x'
  | ok a cs => exact fun b H' ad' e' c' s' => h b H' ad' (e.trans e') c' s'
end
abbrev relE (g : G) : Hp → Ad → V → SV → Prop := fun H ad v r => SvR g H ad v r
abbrev relB : Hp → Ad → Bool → Bool → Prop := fun _ _ b a => b = a
abbrev relA (g : G) : Hp → Ad → List V → List SV → Prop := fun H ad vs rs => SvsR g H ad vs rs
/-- an expression; a test; arguments -/
def ME (g : G) (W : WX) (X : Cx) (e : Expr) (d : D SV) : Prop := PE X e (rd g W (relE g) d)
def MT (g : G) (W : WX) (X : Cx) (e : Expr) (d : D Bool) : Prop := PT X e (rd g W relB d)
def MW (g : G) (W : WX) (X : Cx) (e : Expr) (d : D Bool) : Prop := PW X e (rd g W relB d)
def MA (g : G) (W : WX) (X : Cx) (es : List Expr) (d : D (List SV)) : Prop := PA X es (rd g W (relA g) d)
theorem PE.cons {X : Cx} {e : Expr} {t t' : TE} (h : PE X e t) (f : ∀ σ H Q, t' σ H Q → t σ H Q) : PE X e t' := ⟨fun pins s σ H Q I hw => h.run pins s σ H Q I (f σ H Q hw)⟩
theorem PT.cons {X : Cx} {e : Expr} {t t' : TT} (h : PT X e t) (f : ∀ σ H Q, t' σ H Q → t σ H Q) : PT X e t' := ⟨fun pins s σ H Q I hw => h.run pins s σ H Q I (f σ H Q hw)⟩
theorem PW.cons {X : Cx} {e : Expr} {t t' : TT} (h : PW X e t) (f : ∀ σ H Q, t' σ H Q → t σ H Q) : PW X e t' := ⟨fun wh pins s σ H Q I hw => h.run wh pins s σ H Q I (f σ H Q hw)⟩
theorem PA.cons {X : Cx} {es : List Expr} {t t' : TA} (h : PA X es t) (f : ∀ σ H Q, t' σ H Q → t σ H Q) : PA X es t' := ⟨fun p pins s σ H Q I hw => h.run p pins s σ H Q I (f σ H Q hw)⟩
section
variable {g : G} {W : WX} {X : Cx}
/-! ### names and constants -/
def dVar (i : Nat) : D SV := fun sl cs => match sl[i]? with
  | some (some r) => .ok r cs
  | _ => .bad
def dC (t : T) : D SV := fun _ cs => .ok (.t t) cs
theorem m_var {i : Nat} {x : Str} {pos : Pos} (h : PE X (.Name x pos) (tVar i)) : ME g W X (.Name x pos) (dVar i) := by
  refine PE.cons h fun σ H Q hw => ?_
  obtain ⟨sl, cs, ad, S, C, A⟩ := hw
  unfold dVar at A
  split at A
  · rename_i r e
    obtain ⟨v, h1, h2⟩ := S.at_ i r e
    exact ⟨v, h1, A v H ad Ex.refl C h2⟩
  · exact A.elim
theorem m_c {e : Expr} {v : V} {t : T} (h : PE X e (tC v)) (r : ∀ H ad, Rp H ad v t) : ME g W X e (dC t) := by
  refine PE.cons h fun σ H Q hw => ?_
  obtain ⟨sl, cs, ad, S, C, A⟩ := hw
  exact A v H ad Ex.refl C (r H ad)
theorem m_int {i j pos} : ME g W X (.Constant (.int i) j pos) (dC (.int i)) := m_c pe_int fun _ _ => rfl
theorem m_bl {b j pos} : ME g W X (.Constant (.bool b) j pos) (dC (.bool b)) := m_c pe_bl fun _ _ => rfl
theorem m_non {j pos} : ME g W X (.Constant .none j pos) (dC .none) := m_c pe_non fun _ _ => rfl
theorem m_str {x j pos} : ME g W X (.Constant (.str x) j pos) (dC (.str x)) := m_c pe_str fun _ _ => rfl
/-! ### two operands -/
def dBin (f : SV → SV → Cs → R SV) (da db : D SV) : D SV := fun sl cs => (da sl cs).bind fun r1 c1 => (db sl c1).bind fun r2 c2 => f r1 r2 c2
/-- an operation of values that serves its denotation -/
def OpS (g : G) (r : R2) (f : SV → SV → Cs → R SV) : Prop := ∀ (W : WX) (σ : L2.St) (H : Hp) (ad : Ad) (cs : Cs) (x y : V) (a b : SV) (Q : VK), CsR H ad cs → SvR g H ad x a → SvR g H ad y b → Aft g W σ (relE g) H ad (f a b cs) Q → r x y H Q
theorem rd_bin {f : SV → SV → Cs → R SV} {da db : D SV} {r : R2} (o : OpS g r f) (σ : L2.St) (H : Hp) (Q : VK) (h : rd g W (relE g) (dBin f da db) σ H Q) : tOp r (rd g W (relE g) da) (rd g W (relE g) db) σ H Q := by
  obtain ⟨sl, cs, ad, S, C, A⟩ := h
  refine ⟨sl, cs, ad, S, C, Aft.bind (rel := relE g) A fun x a c1 H1 ad1 e1 C1 s1 A1 => ?_⟩
  refine ⟨sl, c1, ad1, S.mono e1, C1, Aft.bind (rel := relE g) A1 fun y b c2 H2 ad2 e2 C2 s2 A2 => ?_⟩
  exact o W σ H2 ad2 c2 x y a b Q C2 (s1.mono e2) s2 A2
theorem res_pk {H : Hp} {ad : Ad} {cs : Cs} {v : V} {r : SV} {t : T} (c : CsR H ad cs) (s : SvR g H ad v r) (e : res r cs = some t) : Pk H ad v t := by
  cases r with
  | t u => cases e; exact Rp.pk s
  | x x => cases e
  | c i =>
    obtain ⟨h1, h2⟩ := s
    cases q : cs[i]? with
    | none => simp [res, q] at e
    | some k =>
      have hl : i < ad.length := h1
      have z := c.cell i ad[i] k (by simp [hl]) q
      cases k with
      | dead => simp [res, q] at e
      | lst ts =>
        simp only [res, q, Option.some.injEq] at e
        subst e
        cases o : ad[i] with
        | none => rw [o] at z; exact z.elim
        | some a =>
          rw [o] at z
          obtain ⟨xs, z1, z2⟩ := z
          exact ⟨a, xs, h2 a (by rw [List.getElem?_eq_getElem hl, o]), z1, z2⟩
      | lock ts =>
        simp only [res, q, Option.some.injEq] at e
        subst e
        cases o : ad[i] with
        | none => rw [o] at z; exact z.elim
        | some a =>
          rw [o] at z
          obtain ⟨xs, z1, z2⟩ := z
          exact ⟨a, xs, h2 a (by rw [List.getElem?_eq_getElem hl, o]), z1, z2⟩
      | dct kvs =>
        simp only [res, q, Option.some.injEq] at e
        subst e
        cases o : ad[i] with
        | none => rw [o] at z; exact z.elim
        | some a =>
          rw [o] at z
          obtain ⟨xs, z1, z2⟩ := z
          exact ⟨a, xs, h2 a (by rw [List.getElem?_eq_getElem hl, o]), .inl z1, z2⟩
/-! ### a heap with more -/
theorem TabC.same {H H' : Hp} {ad : Ad} {P : Addr} {q : Str} (s : Same H H') (h : TabC H ad P q) : TabC H' ad P q := by
  obtain ⟨ps, h1, h2, h3⟩ := h
  refine ⟨ps, s _ _ h1, h2, fun pos cv hc => ?_⟩
  obtain ⟨c, e1, e2, e3⟩ := h3 pos cv hc
  exact ⟨c, e1, s _ _ e2, e3⟩
theorem TabC.sub {H : Hp} {ad ad' : Ad} {P : Addr} {q : Str} (k : ∀ a : Addr, H a ≠ none → some a ∉ ad → some a ∉ ad') (h : TabC H ad P q) : TabC H ad' P q := by
  obtain ⟨ps, h1, h2, h3⟩ := h
  refine ⟨ps, h1, h2, fun pos cv hc => ?_⟩
  obtain ⟨c, e1, e2, e3⟩ := h3 pos cv hc
  exact ⟨c, e1, e2, k c (by rw [e2]; simp) e3⟩
theorem Ex.same {H H' : Hp} {ad : Ad} (s : Same H H') : Ex H ad H' ad := ⟨fun a o e _ _ => s a o e, fun _ _ _ h => h.same s, fun a ⟨o, h1, h2⟩ => ⟨o, s a o h1, h2⟩, Nat.le_refl _, fun _ _ e _ => e, fun i a e h => by
  have := (List.getElem?_eq_some_iff.mp e).1; omega⟩
theorem CsR.same {H H' : Hp} {ad : Ad} {cs : Cs} (s : Same H H') (c : CsR H ad cs) : CsR H' ad cs := by
  refine ⟨c.len, c.inj, fun i o k e1 e2 => ?_⟩
  have z := c.cell i o k e1 e2
  cases o with
  | none => cases k <;> exact z
  | some a =>
    cases k with
    | dead => exact z
    | lst ts => obtain ⟨xs, z1, z2⟩ := z; exact ⟨xs, s _ _ z1, Rps.mono (Ex.same s) _ _ z2⟩
    | lock ts => obtain ⟨xs, z1, z2⟩ := z; exact ⟨xs, s _ _ z1, Rps.mono (Ex.same s) _ _ z2⟩
    | dct kvs => obtain ⟨xs, z1, z2⟩ := z; exact ⟨xs, s _ _ z1, RpKs.mono (Ex.same s) _ _ z2⟩
theorem CsR.live {H : Hp} {ad : Ad} {cs : Cs} (c : CsR H ad cs) {a : Addr} (m : some a ∈ ad) : H a ≠ none := by
  obtain ⟨i, hi⟩ := List.mem_iff_getElem?.mp m
  have hl : i < cs.length := by rw [← c.len]; exact (List.getElem?_eq_some_iff.mp hi).1
  have z := c.cell i _ cs[i] hi (by simp [hl])
  cases q : cs[i] with
  | dead => rw [q] at z; exact z.elim
  | lst ts => rw [q] at z; obtain ⟨xs, z1, _⟩ := z; rw [z1]; simp
  | lock ts => rw [q] at z; obtain ⟨xs, z1, _⟩ := z; rw [z1]; simp
  | dct ts => rw [q] at z; obtain ⟨xs, z1, _⟩ := z; rw [z1]; simp
theorem Same.new {H : Hp} {p : Addr} {o : HO} (n : H p = none) : Same H (upd H p o) := fun b u e => by rw [upd_ne (ne_of_none e n)]; exact e
theorem same_refl {H : Hp} : Same H H := fun _ _ e => e
/-- a pure operation of two data -/
def op2 (h : T → T → Option T) : SV → SV → Cs → R SV := fun a b cs =>
  match res a cs, res b cs with
  | some ta, some tb => (match h ta tb with | some t => .ok (.t t) cs | none => .bad)
  | _, _ => .bad
def OpT (r : R2) (h : T → T → Option T) : Prop := ∀ (H : Hp) (ad : Ad) (x y : V) (ta tb t : T) (Q : VK), (∀ a, some a ∈ ad → H a ≠ none) → Pk H ad x ta → Pk H ad y tb → h ta tb = some t → (∀ v H', Same H H' → Rp H' ad v t → Q v H') → r x y H Q
theorem opS_of {h : T → T → Option T} {r : R2} (o : OpT r h) : OpS g r (op2 h) := by
  intro W σ H ad cs x y a b Q c sa sb A
  unfold op2 at A
  cases ea : res a cs with
  | none => rw [ea] at A; exact A.elim
  | some ta =>
    cases eb : res b cs with
    | none => rw [ea, eb] at A; exact A.elim
    | some tb =>
      rw [ea, eb] at A
      simp only at A
      cases e : h ta tb with
      | none => rw [e] at A; exact A.elim
      | some t =>
        rw [e] at A
        exact o H ad x y ta tb t Q (fun _ m => c.live m) (res_pk c sa ea) (res_pk c sb eb) e fun v H' s r => A v H' ad (Ex.same s) (c.same s) r
def op1 (h : T → Option T) : SV → Cs → R SV := fun a cs =>
  match res a cs with
  | some ta => (match h ta with | some t => .ok (.t t) cs | none => .bad)
  | none => .bad
end
end Mi
set_option Elab.async false
set_option linter.all false
set_option autoImplicit false
set_option maxRecDepth 100000
set_option maxHeartbeats 1000000
namespace Mi
open PySem PySem.Spec PyProof.Rows L2
variable [TbC]
theorem OpR.or {X : Cx} {f : Value → Value → Sem Value} {r r' : R2} (h : OpR X f r) (h' : OpR X f r') : OpR X f (fun x y H Q => r x y H Q ∨ r' x y H Q) := by
  intro pins s σ H x y v u Q I rx ry q
  rcases q with q | q
  · exact h pins s σ H x y v u Q I rx ry q
  · exact h' pins s σ H x y v u Q I rx ry q
section
variable {X : Cx} {g : G} {W : WX}
/-! ### + - * // % ** -/
def addT : T → T → Option T
  | .int i, .int j => some (.int (i + j))
  | .str x, .str y => if x.length + y.length ≤ sizeLine then some (.str (x ++ y)) else none
  | .tuple a, .tuple b => if a.length + b.length ≤ sizeLine then some (.tuple (a ++ b)) else none
  | .list a, .list b => if a.length + b.length ≤ sizeLine then some (.list (a ++ b)) else none
  | _, _ => none
theorem or_add : ∃ r, OpR X (binaryOp .Add) r ∧ OpT r addT := by
  refine ⟨_, OpR.or op_add (OpR.or op_add_str (OpR.or op_catA op_cat)), ?_⟩
  intro H ad x y ta tb t Q lv hx hy e k
  cases ta <;> cases tb <;> first | (simp [addT] at e; done) | skip
  case int.int i j =>
    simp only [addT, Option.some.injEq] at e
    subst e
    exact .inl ⟨i, j, hx, hy, k _ _ same_refl rfl⟩
  case str.str i j =>
    simp only [addT] at e
    split at e
    · rename_i hl
      cases e
      exact .inr (.inl ⟨i, j, hx, hy, hl, k _ _ same_refl rfl⟩)
    · cases e
  case tuple.tuple as bs =>
    simp only [addT] at e
    split at e
    · rename_i hl
      cases e
      obtain ⟨a, xs, rfl, h2, h3, h4⟩ := hx
      obtain ⟨b, ys, rfl, g2, g3, g4⟩ := hy
      refine .inr (.inr (.inl ⟨a, b, xs, ys, rfl, rfl, SqT.of h2, SqT.of g2, by rw [h4.len, g4.len]; exact hl, fun q => ?_, fun q1 q2 => ?_, fun q1 q2 p np => ?_⟩))
      · have : as = [] := List.eq_nil_of_length_eq_zero (by rw [← h4.len, q]; rfl)
        subst this
        exact k _ _ same_refl ⟨b, ys, rfl, g2, g3, g4⟩
      · have : bs = [] := List.eq_nil_of_length_eq_zero (by rw [← g4.len, q2]; rfl)
        subst this
        exact k _ _ same_refl ⟨a, xs, rfl, h2, h3, by simpa using h4⟩
      · exact k _ _ (Same.new np) ⟨p, _, rfl, upd_same, fun m => lv p m np, Rps.mono (Ex.same (Same.new np)) _ _ (Rps.append h4 g4)⟩
    · cases e
  case list.list as bs =>
    simp only [addT] at e
    split at e
    · rename_i hl
      cases e
      obtain ⟨a, xs, rfl, h2, h4⟩ := hx
      obtain ⟨b, ys, rfl, g2, g4⟩ := hy
      refine .inr (.inr (.inr ⟨a, b, xs, ys, rfl, rfl, h2, g2, by rw [h4.len, g4.len]; exact hl, fun p np => ?_⟩))
      exact k _ _ (Same.new np) ⟨p, _, rfl, upd_same, fun m => lv p m np, Rps.mono (Ex.same (Same.new np)) _ _ (Rps.append h4 g4)⟩
    · cases e
def dAdd (a b : D SV) : D SV := dBin (op2 addT) a b
theorem m_bin {op : Operator} {a b : Expr} {pos : Pos} {da db : D SV} {h : T → T → Option T} (o : ∃ r, OpR X (binaryOp op) r ∧ OpT r h) (ha : ME g W X a da) (hb : ME g W X b db) : ME g W X (.BinOp a op b pos) (dBin (op2 h) da db) := by
  obtain ⟨r, o1, o2⟩ := o
  exact PE.cons (pe_op o1 ha hb) (rd_bin (opS_of o2))
theorem m_add {a b : Expr} {pos : Pos} {da db : D SV} (ha : ME g W X a da) (hb : ME g W X b db) : ME g W X (.BinOp a .Add b pos) (dAdd da db) := m_bin or_add ha hb
def subT : T → T → Option T
  | .int i, .int j => some (.int (i - j))
  | _, _ => none
theorem opT_int {c : Int → Int → Prop} [∀ i j, Decidable (c i j)] {f : Int → Int → Int} {h : T → T → Option T} (hi : ∀ i j, h (.int i) (.int j) = if c i j then some (.int (f i j)) else none) (ho : ∀ a b t, h a b = some t → ∃ i j, a = .int i ∧ b = .int j) :
    OpT (rI c fun i j => .int (f i j)) h := by
  intro H ad x y ta tb t Q lv hx hy e k
  obtain ⟨i, j, rfl, rfl⟩ := ho _ _ _ e
  rw [hi] at e
  split at e
  · rename_i hc
    cases e
    exact ⟨i, j, hx, hy, hc, k _ _ same_refl rfl⟩
  · cases e
theorem or_sub : ∃ r, OpR X (binaryOp .Sub) r ∧ OpT r subT := by
  refine ⟨_, op_sub, ?_⟩
  intro H ad x y ta tb t Q lv hx hy e k
  cases ta <;> cases tb <;> first | (simp [subT] at e; done) | skip
  simp only [subT, Option.some.injEq] at e
  subst e
  exact ⟨_, _, hx, hy, k _ _ same_refl rfl⟩
def dSub (a b : D SV) : D SV := dBin (op2 subT) a b
theorem m_sub {a b : Expr} {pos : Pos} {da db : D SV} (ha : ME g W X a da) (hb : ME g W X b db) : ME g W X (.BinOp a .Sub b pos) (dSub da db) := m_bin or_sub ha hb
def repT (k : Int) (ts : List T) : List T := (List.replicate k.toNat ts).flatten
def mulT : T → T → Option T
  | .int i, .int j => if i.natAbs.log2 + j.natAbs.log2 < 1000000 then some (.int (i * j)) else none
  | .tuple ts, .int k => if k = 1 then some (.tuple ts) else if ts ≠ [] ∧ 2 ≤ k ∧ k ≤ 1000 ∧ ts.length ≤ 1000 then some (.tuple (repT k ts)) else none
  | .list ts, .int k => if 0 ≤ k ∧ k ≤ 16777216 ∧ ts.length * k.toNat ≤ sizeLine then some (.list (repT k ts)) else none
  | _, _ => none
/-- t * 1, () * n: the same object -/
theorem mul_same (l : Addr) (its : Array Value) (n : Nat) (dd : Option Addr) (sl : Array (Option Value)) (x : Int) (u : Tok) (c0 : (decide (x < -(2 ^ 63)) || decide (x ≥ 2 ^ 63)) = false) (c1 : (its.isEmpty || x == 1) = true) :
    Meets (Builtin.«tuple.__mul__» ⟨[.ref l, .int x u], []⟩) (fun _ R z => z.heap.get? l = some { cls := .type "tuple", dict := dd, data := .seq its n, slots := sl } ∧ R (.ok (.ret (Value.ref l))) z) :=
  .of_wp fun _ _ _ R z ⟨q, k⟩ => by
    obtain ⟨z1, z2, z3, z4, z5⟩ := z
    have fi := AutoSeq1.idx_int
    wp_walk using wpAny_loadPart' q
    refine wpAny_ite_false (decide_eq_false (by rw [c0]; exact Bool.false_ne_true)) ?_
    wp_walk using wpAny_loadPart' q
    exact ⟨_, rfl, k⟩
def rRep1 : R2 := fun x y H Q => ∃ l k xs, x = .ref l ∧ y = .int k ∧ H l = some (.tup xs) ∧ (xs = [] ∨ k = 1) ∧ -(2 ^ 63) ≤ k ∧ k < 2 ^ 63 ∧ Q (.ref l) H
theorem op_rep1 : OpR X (binaryOp .Mult) rRep1 := by
  intro pins s σ H x y v u Q I rx ry ⟨l, k, xs, e1, e2, hT, h1, h2, h3, q⟩
  subst e1; subst e2
  cases rx
  obtain ⟨t, rfl⟩ := ry
  obtain ⟨its, r, ⟨⟨cls, dd, data, sl⟩, ho, hc, n, hd⟩, hs⟩ := I.tuple (SqT.of hT)
  obtain rfl : cls = _ := hc
  obtain rfl : data = _ := hd
  have c0 : (decide (k < -(2 ^ 63)) || decide (k ≥ 2 ^ 63)) = false := by rw [decide_eq_false (by omega), decide_eq_false (by omega), Bool.or_false]
  have c1 : (its.toArray.isEmpty || k == 1) = true := by
    rcases h1 with h1 | h1
    · subst h1; cases r; rfl
    · subst h1; simp
  exact wpAny_binaryOp_repeat_ref (T := "tuple") (U := "int") (by decide) ⟨_, ho, rfl⟩ (fun s' => typeIs_int s' k t) noFill_tuple_mul F.fills_int_mul F.slot_int_rmul repeat_tuple F.slot_int_index.lookup
    (call_meets F.slot_int_rmul (typeIs_int s k t) F.entry_int_rmul (F.args_int_rmul_2 _ _) (int_rmul_tuple k t l its.toArray n dd sl)
      ⟨ho, rfl, ⟨_, ho, rfl⟩, call_meets F.slot_tuple_mul ⟨_, ho, rfl⟩ F.entry_tuple_mul (F.args_tuple_mul_2 _ _) (mul_same l its.toArray n dd sl k t c0 c1) ⟨ho, ⟨.ref l, H, I, rfl, q⟩⟩⟩)
theorem Rps.rep {H : Hp} {ad : Ad} {ts : List T} {xs : List V} (h : Rps H ad xs ts) : ∀ n : Nat, Rps H ad (List.replicate n xs).flatten (List.replicate n ts).flatten
  | 0 => by simp [Rps]
  | n + 1 => by rw [List.replicate_succ, List.replicate_succ, List.flatten_cons, List.flatten_cons]; exact Rps.append h (Rps.rep h n)
theorem or_mul : ∃ r, OpR X (binaryOp .Mult) r ∧ OpT r mulT := by
  refine ⟨_, OpR.or op_mulW (OpR.or op_rep1 (OpR.or op_repT op_rep)), ?_⟩
  intro H ad x y ta tb t Q lv hx hy e k
  cases ta <;> cases tb <;> first | (simp [mulT] at e; done) | skip
  case int.int i j =>
    simp only [mulT] at e
    split at e
    · rename_i hl
      cases e
      exact .inl ⟨i, j, hx, hy, hl, k _ _ same_refl rfl⟩
    · cases e
  case tuple.int ts i =>
    simp only [mulT] at e
    obtain ⟨a, xs, rfl, h2, h3, h4⟩ := hx
    split at e
    · rename_i hl
      cases e
      exact .inr (.inl ⟨a, i, xs, rfl, hy, h2, .inr hl, by omega, by omega, k _ _ same_refl ⟨a, xs, rfl, h2, h3, h4⟩⟩)
    · split at e
      · rename_i hl
        obtain ⟨l1, l2, l3, l4⟩ := hl
        cases e
        refine .inr (.inr (.inl ⟨a, i, xs, rfl, hy, SqT.of h2, fun z => ?_, l2, l3, by rw [h4.len]; exact l4, fun p np => ?_⟩))
        · subst z
          exact l1 (List.eq_nil_of_length_eq_zero (by rw [← h4.len]; rfl))
        · exact k _ _ (Same.new np) ⟨p, _, rfl, upd_same, fun m => lv p m np, Rps.mono (Ex.same (Same.new np)) _ _ (h4.rep _)⟩
      · cases e
  case list.int ts i =>
    simp only [mulT] at e
    obtain ⟨a, xs, rfl, h2, h4⟩ := hx
    split at e
    · rename_i hl
      obtain ⟨l1, l2, l3⟩ := hl
      cases e
      refine .inr (.inr (.inr ⟨a, i, xs, rfl, hy, h2, by omega, by omega, by rw [h4.len]; exact l3, fun p np => ?_⟩))
      exact k _ _ (Same.new np) ⟨p, _, rfl, upd_same, fun m => lv p m np, Rps.mono (Ex.same (Same.new np)) _ _ (h4.rep _)⟩
    · cases e
def dMul (a b : D SV) : D SV := dBin (op2 mulT) a b
theorem m_mul {a b : Expr} {pos : Pos} {da db : D SV} (ha : ME g W X a da) (hb : ME g W X b db) : ME g W X (.BinOp a .Mult b pos) (dMul da db) := m_bin or_mul ha hb
def fdivT : T → T → Option T
  | .int i, .int j => if 0 < j ∧ j.natAbs.log2 < 9000 then some (.int (i / j)) else none
  | _, _ => none
def modT : T → T → Option T
  | .int i, .int j => if 0 < j then some (.int (i % j)) else none
  | _, _ => none
def powT : T → T → Option T
  | .int i, .int j => if 0 ≤ j ∧ j ≤ 1000000 ∧ i.natAbs < 2 ^ 64 then some (.int (i ^ j.toNat)) else none
  | _, _ => none
theorem or_fdiv : ∃ r, OpR X (binaryOp .FloorDiv) r ∧ OpT r fdivT := by
  refine ⟨_, op_fdivW, ?_⟩
  intro H ad x y ta tb t Q lv hx hy e k
  cases ta <;> cases tb <;> first | (simp [fdivT] at e; done) | skip
  simp only [fdivT] at e
  split at e
  · rename_i hl
    cases e
    exact ⟨_, _, hx, hy, hl, k _ _ same_refl rfl⟩
  · cases e
theorem or_mod : ∃ r, OpR X (binaryOp .Mod) r ∧ OpT r modT := by
  refine ⟨_, op_mod, ?_⟩
  intro H ad x y ta tb t Q lv hx hy e k
  cases ta <;> cases tb <;> first | (simp [modT] at e; done) | skip
  simp only [modT] at e
  split at e
  · rename_i hl
    cases e
    exact ⟨_, _, hx, hy, hl, k _ _ same_refl rfl⟩
  · cases e
theorem or_pow : ∃ r, OpR X (binaryOp .Pow) r ∧ OpT r powT := by
  refine ⟨_, op_pow, ?_⟩
  intro H ad x y ta tb t Q lv hx hy e k
  cases ta <;> cases tb <;> first | (simp [powT] at e; done) | skip
  simp only [powT] at e
  split at e
  · rename_i hl
    cases e
    exact ⟨_, _, hx, hy, hl, k _ _ same_refl rfl⟩
  · cases e
def dFdiv (a b : D SV) : D SV := dBin (op2 fdivT) a b
def dMod (a b : D SV) : D SV := dBin (op2 modT) a b
def dPow (a b : D SV) : D SV := dBin (op2 powT) a b
theorem m_fdiv {a b : Expr} {pos : Pos} {da db : D SV} (ha : ME g W X a da) (hb : ME g W X b db) : ME g W X (.BinOp a .FloorDiv b pos) (dFdiv da db) := m_bin or_fdiv ha hb
theorem m_mod {a b : Expr} {pos : Pos} {da db : D SV} (ha : ME g W X a da) (hb : ME g W X b db) : ME g W X (.BinOp a .Mod b pos) (dMod da db) := m_bin or_mod ha hb
theorem m_pow {a b : Expr} {pos : Pos} {da db : D SV} (ha : ME g W X a da) (hb : ME g W X b db) : ME g W X (.BinOp a .Pow b pos) (dPow da db) := m_bin or_pow ha hb
/-! ### comparisons -/
mutual
theorem plain_lay : ∀ t : T, t.canLay0 = true → plain t = true
  | .none, _ => rfl | .bool _, _ => rfl | .int _, _ => rfl | .str _, _ => rfl
  | .tuple ts, h => by simp only [PyData.canLay0] at h; simp only [plain]; exact plains_lay ts h
  | .list ts, h => by simp only [PyData.canLay0] at h; simp only [plain]; exact plains_lay ts h
  | .dict _, h => by simp [PyData.canLay0] at h
theorem plains_lay : ∀ ts : List T, PyData.canLayAll0 ts = true → plains ts = true
  | [], _ => rfl
  | t :: ts, h => by
    simp only [PyData.canLayAll0, Bool.and_eq_true] at h
    simp only [plains, Bool.and_eq_true]
    exact ⟨plain_lay t h.1, plains_lay ts h.2⟩
end
theorem plain_sh {t : T} (h : SeqAt.shaped t = true) : plain t = true := plain_lay t (SeqAt.canLay_of_shaped h)
def eqT : T → T → Option Bool
  | .int i, .int j => some (decide (i = j))
  | .str x, .str y => some (decide (x = y))
  | a, b => if SeqAt.shaped a = true ∧ SeqAt.shaped b = true then some (PyData.eqv a b) else none
theorem eqT_else {a b : T} {r : Bool} (h : eqT a b = some r) : (∃ i j, a = .int i ∧ b = .int j ∧ r = decide (i = j)) ∨ (∃ x y, a = .str x ∧ b = .str y ∧ r = decide (x = y)) ∨ (SeqAt.shaped a = true ∧ SeqAt.shaped b = true ∧ r = PyData.eqv a b) := by
  cases a <;> cases b <;> simp only [eqT] at h <;> first
    | (simp only [Option.some.injEq] at h; exact .inl ⟨_, _, rfl, rfl, h.symm⟩)
    | (simp only [Option.some.injEq] at h; exact .inr (.inl ⟨_, _, rfl, rfl, h.symm⟩))
    | (split at h
       · rename_i q
         cases h
         exact .inr (.inr ⟨q.1, q.2, rfl⟩)
       · cases h)
def eqO (a b : T) : Option T := (eqT a b).map .bool
def neO (a b : T) : Option T := (eqT a b).map fun r => .bool (!r)
theorem or_eq (hu : X.A.units + 64 < cLine) : ∃ r, OpR X (compareOp .Eq) r ∧ OpT r eqO := by
  refine ⟨_, OpR.or op_eq (op_eqD hu), ?_⟩
  intro H ad x y ta tb t Q lv hx hy e k
  unfold eqO at e
  cases z : eqT ta tb with
  | none => rw [z] at e; cases e
  | some r =>
    rw [z] at e
    cases e
    rcases eqT_else z with ⟨i, j, rfl, rfl, rfl⟩ | ⟨i, j, rfl, rfl, rfl⟩ | ⟨h1, h2, rfl⟩
    · obtain rfl : x = .int i := hx
      obtain rfl : y = .int j := hy
      exact .inl ⟨rfl, by have : decide (V.int i = V.int j) = decide (i = j) := by simp
                          rw [this]; exact k _ _ same_refl rfl⟩
    · obtain rfl : x = .str i := hx
      obtain rfl : y = .str j := hy
      exact .inl ⟨rfl, by have : decide (V.str i = V.str j) = decide (i = j) := by simp
                          rw [this]; exact k _ _ same_refl rfl⟩
    · exact .inr ⟨ta, tb, hx.dp (plain_sh h1), hy.dp (plain_sh h2), h1, h2, k _ _ same_refl rfl⟩
theorem or_ne (hu : X.A.units + 64 < cLine) : ∃ r, OpR X (compareOp .NotEq) r ∧ OpT r neO := by
  refine ⟨_, OpR.or op_ne (op_neD hu), ?_⟩
  intro H ad x y ta tb t Q lv hx hy e k
  unfold neO at e
  cases z : eqT ta tb with
  | none => rw [z] at e; cases e
  | some r =>
    rw [z] at e
    cases e
    rcases eqT_else z with ⟨i, j, rfl, rfl, rfl⟩ | ⟨i, j, rfl, rfl, rfl⟩ | ⟨h1, h2, rfl⟩
    · obtain rfl : x = .int i := hx
      obtain rfl : y = .int j := hy
      exact .inl ⟨rfl, by have : decide (V.int i = V.int j) = decide (i = j) := by simp
                          rw [this]; exact k _ _ same_refl rfl⟩
    · obtain rfl : x = .str i := hx
      obtain rfl : y = .str j := hy
      exact .inl ⟨rfl, by have : decide (V.str i = V.str j) = decide (i = j) := by simp
                          rw [this]; exact k _ _ same_refl rfl⟩
    · exact .inr ⟨ta, tb, hx.dp (plain_sh h1), hy.dp (plain_sh h2), h1, h2, k _ _ same_refl rfl⟩
def ltT : T → T → Option T
  | .int i, .int j => some (.bool (decide (i < j)))
  | _, _ => none
def leT : T → T → Option T
  | .int i, .int j => some (.bool (decide (i ≤ j)))
  | _, _ => none
def gtT : T → T → Option T
  | .int i, .int j => some (.bool (decide (j < i)))
  | _, _ => none
def geT : T → T → Option T
  | .int i, .int j => some (.bool (decide (j ≤ i)))
  | _, _ => none
theorem or_lt : ∃ r, OpR X (compareOp .Lt) r ∧ OpT r ltT := by
  refine ⟨_, op_lt, ?_⟩
  intro H ad x y ta tb t Q lv hx hy e k
  cases ta <;> cases tb <;> first | (simp [ltT] at e; done) | skip
  cases e
  exact ⟨_, _, hx, hy, k _ _ same_refl rfl⟩
theorem or_le : ∃ r, OpR X (compareOp .LtE) r ∧ OpT r leT := by
  refine ⟨_, op_le, ?_⟩
  intro H ad x y ta tb t Q lv hx hy e k
  cases ta <;> cases tb <;> first | (simp [leT] at e; done) | skip
  cases e
  exact ⟨_, _, hx, hy, k _ _ same_refl rfl⟩
theorem or_gt : ∃ r, OpR X (compareOp .Gt) r ∧ OpT r gtT := by
  refine ⟨_, op_gt, ?_⟩
  intro H ad x y ta tb t Q lv hx hy e k
  cases ta <;> cases tb <;> first | (simp [gtT] at e; done) | skip
  cases e
  exact ⟨_, _, hx, hy, k _ _ same_refl rfl⟩
theorem or_ge : ∃ r, OpR X (compareOp .GtE) r ∧ OpT r geT := by
  refine ⟨_, op_ge, ?_⟩
  intro H ad x y ta tb t Q lv hx hy e k
  cases ta <;> cases tb <;> first | (simp [geT] at e; done) | skip
  cases e
  exact ⟨_, _, hx, hy, k _ _ same_refl rfl⟩
/-- is None -/
def isN : T → T → Option T
  | .none, .none => some (.bool true)
  | _, .none => some (.bool false)
  | _, _ => none
def notN : T → T → Option T
  | .none, .none => some (.bool false)
  | _, .none => some (.bool true)
  | _, _ => none
theorem pk_non {H : Hp} {ad : Ad} {x : V} {t : T} (h : Pk H ad x t) : decide (x = V.non) = (match t with | .none => true | _ => false) := by
  cases t with
  | none => obtain rfl : x = .non := h; rfl
  | bool b => obtain rfl : x = .bl b := h; rfl
  | int i => obtain rfl : x = .int i := h; rfl
  | str i => obtain rfl : x = .str i := h; rfl
  | tuple ts => obtain ⟨a, xs, rfl, _⟩ := h; rfl
  | list ts => obtain ⟨a, xs, rfl, _⟩ := h; rfl
  | dict ts => obtain ⟨a, xs, rfl, _⟩ := h; rfl
theorem or_is : ∃ r, OpR X (compareOp .Is) r ∧ OpT r isN := by
  refine ⟨_, op_isN, ?_⟩
  intro H ad x y ta tb t Q lv hx hy e k
  have hn := pk_non hx
  cases tb <;> first | (cases ta <;> simp [isN] at e; done) | skip
  obtain rfl : y = .non := hy
  refine ⟨rfl, ?_⟩
  rw [hn]
  cases ta <;> cases e <;> exact k _ _ same_refl rfl
theorem or_isnot : ∃ r, OpR X (compareOp .IsNot) r ∧ OpT r notN := by
  refine ⟨_, op_notN, ?_⟩
  intro H ad x y ta tb t Q lv hx hy e k
  have hn := pk_non hx
  cases tb <;> first | (cases ta <;> simp [notN] at e; done) | skip
  obtain rfl : y = .non := hy
  refine ⟨rfl, ?_⟩
  rw [hn]
  cases ta <;> cases e <;> exact k _ _ same_refl rfl
/-! x in y -/
def hasT : T → T → Option Bool
  | d, .list ds => if SeqAt.shaped d = true ∧ SeqAt.shaped (.list ds) = true then some (ds.any fun z => PyData.eqv z d) else none
  | d, .tuple ds => if SeqAt.shaped d = true ∧ SeqAt.shaped (.tuple ds) = true then some (ds.any fun z => PyData.eqv z d) else none
  | .str x, .str y => some (!(Builtin.Str.occurrences y x 0 y.length 1).isEmpty)
  | _, _ => none
theorem op_inTup (neg : Bool) (hu : X.A.units + 65 < cLine) : OpR X (compareOp (if neg then .NotIn else .In)) (fun x y H Q => ∃ d ds, Dp X.K H x d ∧ Dp X.K H y (.tuple ds) ∧ SeqAt.shaped d = true ∧ SeqAt.shaped (.tuple ds) = true ∧ Q (.bl (if neg then !(ds.any fun z => PyData.eqv z d) else ds.any fun z => PyData.eqv z d)) H) := by
  intro pins s σ H x y v u Q I rx ry ⟨d, ds, hd, he, sd, se, q⟩
  obtain ⟨as, r1⟩ := Dp.reads I d x v hd rx
  obtain ⟨bs, r2⟩ := Dp.reads I (.tuple ds) y u he ry
  cases neg with
  | false => exact SeqAt.in_tuple_reads r2 r1 (SeqAt.canLay_of_shaped se) (SeqAt.canLay_of_shaped sd) (room_in_shaped sd hu) ⟨.bl _, H, I, rfl, q⟩
  | true => exact SeqAt.notIn_tuple_reads r2 r1 (SeqAt.canLay_of_shaped se) (SeqAt.canLay_of_shaped sd) (room_in_shaped sd hu) ⟨.bl _, H, I, rfl, q⟩
def inO (a b : T) : Option T := (hasT a b).map .bool
def notInO (a b : T) : Option T := (hasT a b).map fun r => .bool (!r)
theorem or_in (hu : X.A.units + 65 < cLine) : ∃ r, OpR X (compareOp .In) r ∧ OpT r inO := by
  refine ⟨_, OpR.or (op_inD hu) (OpR.or (op_inTup false hu) op_in_str), ?_⟩
  intro H ad x y ta tb t Q lv hx hy e k
  unfold inO at e
  cases z : hasT ta tb with
  | none => rw [z] at e; cases e
  | some r =>
    rw [z] at e
    cases e
    cases tb <;> simp only [hasT] at z
    case list ds =>
      split at z
      · rename_i q
        cases z
        exact .inl ⟨ta, ds, hx.dp (plain_sh q.1), hy.dp (plain_sh q.2), q.1, q.2, k _ _ same_refl rfl⟩
      · cases z
    case tuple ds =>
      split at z
      · rename_i q
        cases z
        exact .inr (.inl ⟨ta, ds, hx.dp (plain_sh q.1), hy.dp (plain_sh q.2), q.1, q.2, k _ _ same_refl rfl⟩)
      · cases z
    case str w =>
      cases ta <;> simp only [hasT] at z <;> try cases z
      exact .inr (.inr ⟨_, _, hx, hy, k _ _ same_refl rfl⟩)
    all_goals (cases ta <;> first | (cases z; done) | (simp [hasT] at z; done))
theorem or_notin (hu : X.A.units + 65 < cLine) : ∃ r, OpR X (compareOp .NotIn) r ∧ OpT r notInO := by
  refine ⟨_, OpR.or (op_notInD hu) (OpR.or (op_inTup true hu) op_notin_str), ?_⟩
  intro H ad x y ta tb t Q lv hx hy e k
  unfold notInO at e
  cases z : hasT ta tb with
  | none => rw [z] at e; cases e
  | some r =>
    rw [z] at e
    cases e
    cases tb <;> simp only [hasT] at z
    case list ds =>
      split at z
      · rename_i q
        cases z
        exact .inl ⟨ta, ds, hx.dp (plain_sh q.1), hy.dp (plain_sh q.2), q.1, q.2, k _ _ same_refl rfl⟩
      · cases z
    case tuple ds =>
      split at z
      · rename_i q
        cases z
        exact .inr (.inl ⟨ta, ds, hx.dp (plain_sh q.1), hy.dp (plain_sh q.2), q.1, q.2, k _ _ same_refl rfl⟩)
      · cases z
    case str w =>
      cases ta <;> simp only [hasT] at z <;> try cases z
      exact .inr (.inr ⟨_, _, hx, hy, k _ _ same_refl rfl⟩)
    all_goals (cases ta <;> first | (cases z; done) | (simp [hasT] at z; done))
theorem m_cmp {op : CmpOp} {a b : Expr} {pos : Pos} {da db : D SV} {h : T → T → Option T} (o : ∃ r, OpR X (compareOp op) r ∧ OpT r h) (ha : ME g W X a da) (hb : ME g W X b db) (hm : behindInMarks op b = false) : ME g W X (.Compare a [op] [b] pos) (dBin (op2 h) da db) := by
  obtain ⟨r, o1, o2⟩ := o
  exact PE.cons (pe_cmpR o1 ha hb hm) (rd_bin (opS_of o2))
/-- a value as a test: a bool -/
def dTest (d : D SV) : D Bool := fun sl cs => (d sl cs).bind fun r c => match res r c with
  | some (.bool b) => .ok b c
  | _ => .bad
theorem rd_test {d : D SV} (σ : L2.St) (H : Hp) (Q : Bool → Hp → Prop) (h : rd g W relB (dTest d) σ H Q) : tTest (rd g W (relE g) d) σ H Q := by
  obtain ⟨sl, cs, ad, S, C, A⟩ := h
  refine ⟨sl, cs, ad, S, C, Aft.bind (rel := relE g) A fun x a c1 H1 ad1 e1 C1 s1 A1 => ?_⟩
  cases z : res a c1 with
  | none => rw [z] at A1; exact A1.elim
  | some t =>
    rw [z] at A1
    have p := res_pk C1 s1 z
    cases t <;> first | exact A1.elim | skip
    rename_i b
    exact ⟨b, p, A1 b H1 ad1 Ex.refl C1 rfl⟩
theorem m_tcmp {op : CmpOp} {a b : Expr} {pos : Pos} {da db : D SV} {h : T → T → Option T} (o : ∃ r, OpR X (compareOp op) r ∧ OpT r h) (ha : ME g W X a da) (hb : ME g W X b db) (hm : behindInMarks op b = false) : MT g W X (.Compare a [op] [b] pos) (dTest (dBin (op2 h) da db)) := by
  obtain ⟨r, o1, o2⟩ := o
  refine PT.cons (pt_cmpR o1 ha hb hm) fun σ H Q hw => ?_
  exact rd_bin (opS_of o2) σ H _ (rd_test σ H Q hw)
/-- any value that is a bool, as a test -/
theorem m_tval {e : Expr} {d : D SV} (h : ME g W X e d) (he : ∀ whole, isTrue e X.env whole = (do let v ← whole; standAt e.pos; holding [v] (truthy v)) := by intro _; rfl) : MT g W X e (dTest d) := PT.cons (pt_val h he) fun σ H Q hw => rd_test σ H Q hw
end
end Mi
set_option Elab.async false
set_option linter.all false
set_option autoImplicit false
set_option maxRecDepth 100000
set_option maxHeartbeats 1000000
namespace Mi
open PySem PySem.Spec PyProof.Rows L2
variable [TbC]
section
variable {X : Cx} {g : G} {W : WX}
/-! ### tests: and, or, not; a choice -/
def dAndB (a b : D Bool) : D Bool := fun sl cs => (a sl cs).bind fun r c => if r = true then b sl c else .ok false c
def dOrB (a b : D Bool) : D Bool := fun sl cs => (a sl cs).bind fun r c => if r = true then .ok true c else b sl c
def dNotB (a : D Bool) : D Bool := fun sl cs => (a sl cs).bind fun r c => .ok (!r) c
theorem m_tnot {e : Expr} {pos : Pos} {d : D Bool} (h : MT g W X e d) : MT g W X (.UnaryOp .Not e pos) (dNotB d) := by
  refine PT.cons (pt_not h) fun σ H Q hw => ?_
  obtain ⟨sl, cs, ad, S, C, A⟩ := hw
  refine ⟨sl, cs, ad, S, C, Aft.bind (rel := relB) A fun x a c1 H1 ad1 e1 C1 s1 A1 => ?_⟩
  obtain rfl : x = a := s1
  exact A1 _ H1 ad1 Ex.refl C1 rfl
theorem rd_and {t u : D Bool} (σ : L2.St) (H : Hp) (Q : Bool → Hp → Prop) (h : rd g W relB (dAndB t u) σ H Q) : tAnd (rd g W relB t) (rd g W relB u) σ H Q := by
  obtain ⟨sl, cs, ad, S, C, A⟩ := h
  refine ⟨sl, cs, ad, S, C, Aft.bind (rel := relB) A fun x a c1 H1 ad1 e1 C1 s1 A1 => ?_⟩
  obtain rfl : x = a := s1
  cases x with
  | true => exact ⟨sl, c1, ad1, S.mono e1, C1, A1⟩
  | false => exact A1 _ H1 ad1 Ex.refl C1 rfl
theorem rd_or {t u : D Bool} (σ : L2.St) (H : Hp) (Q : Bool → Hp → Prop) (h : rd g W relB (dOrB t u) σ H Q) : tOr (rd g W relB t) (rd g W relB u) σ H Q := by
  obtain ⟨sl, cs, ad, S, C, A⟩ := h
  refine ⟨sl, cs, ad, S, C, Aft.bind (rel := relB) A fun x a c1 H1 ad1 e1 C1 s1 A1 => ?_⟩
  obtain rfl : x = a := s1
  cases x with
  | true => exact A1 _ H1 ad1 Ex.refl C1 rfl
  | false => exact ⟨sl, c1, ad1, S.mono e1, C1, A1⟩
theorem m_wand1 {e : Expr} {pos : Pos} {d : D Bool} (h : MT g W X e d) : MW g W X (.BoolOp .And [e] pos) d := pw_and1 h
theorem m_wor1 {e : Expr} {pos : Pos} {d : D Bool} (h : MT g W X e d) : MW g W X (.BoolOp .Or [e] pos) d := pw_or1 h
theorem m_wand {a b : Expr} {r : List Expr} {pos : Pos} {d k : D Bool} (h : MT g W X a d) (hr : MW g W X (.BoolOp .And (b :: r) pos) k) : MW g W X (.BoolOp .And (a :: b :: r) pos) (dAndB d k) := PW.cons (pw_and h hr) rd_and
theorem m_wor {a b : Expr} {r : List Expr} {pos : Pos} {d k : D Bool} (h : MT g W X a d) (hr : MW g W X (.BoolOp .Or (b :: r) pos) k) : MW g W X (.BoolOp .Or (a :: b :: r) pos) (dOrB d k) := PW.cons (pw_or h hr) rd_or
theorem m_tw {e : Expr} {d : D Bool} (h : MW g W X e d) : MT g W X e d := PW.pt h
/-! .. as values -/
def dB (d : D Bool) : D SV := fun sl cs => (d sl cs).bind fun b c => .ok (.t (.bool b)) c
def dAndV (a b : D SV) : D SV := fun sl cs => (dTest a sl cs).bind fun r c => if r = true then b sl c else .ok (.t (.bool false)) c
def dOrV (a b : D SV) : D SV := fun sl cs => (dTest a sl cs).bind fun r c => if r = true then .ok (.t (.bool true)) c else b sl c
def dNotV (a : D SV) : D SV := fun sl cs => (dTest a sl cs).bind fun r c => .ok (.t (.bool (!r))) c
def dIf (c : D Bool) (a b : D SV) : D SV := fun sl cs => (c sl cs).bind fun r c => if r = true then a sl c else b sl c
/-- .. of a test that comes first -/
theorem rd_first {α β : Type} {rel2 : Hp → Ad → β → α → Prop} {d : D SV} {k : Bool → D α} (σ : L2.St) (H : Hp) (Q : β → Hp → Prop) (h : rd g W rel2 (fun sl cs => (dTest d sl cs).bind fun r c => k r sl c) σ H Q) :
    rd g W (relE g) d σ H fun x H1 => ∃ c, x = .bl c ∧ rd g W rel2 (k c) σ H1 Q := by
  obtain ⟨sl, cs, ad, S, C, A⟩ := h
  have A' : Aft g W σ rel2 H ad ((d sl cs).bind fun r c => (match res r c with | some (.bool b) => (R.ok b c : R Bool) | _ => .bad).bind fun r c => k r sl c) Q := by
    have A2 := A
    simp only [dTest, R.bind_assoc] at A2
    exact A2
  refine ⟨sl, cs, ad, S, C, Aft.bind (rel := relE g) A' fun x a c1 H1 ad1 e1 C1 s1 A1 => ?_⟩
  cases z : res a c1 with
  | none => rw [z] at A1; exact A1.elim
  | some t =>
    rw [z] at A1
    have p := res_pk C1 s1 z
    cases t <;> first | exact A1.elim | skip
    rename_i b
    exact ⟨b, p, sl, c1, ad1, S.mono e1, C1, A1⟩
theorem m_vand {a b : Expr} {r : List Expr} {pos : Pos} {d k : D SV} (h : ME g W X a d) (hr : ME g W X (.BoolOp .And (b :: r) pos) k) : ME g W X (.BoolOp .And (a :: b :: r) pos) (dAndV d k) := by
  refine PE.cons (pe_and h hr) fun σ H Q hw => ?_
  have q := rd_first (rel2 := relE g) (k := fun r sl c => if r = true then k sl c else .ok (.t (.bool false)) c) σ H Q hw
  obtain ⟨sl, cs, ad, S, C, A⟩ := q
  refine ⟨sl, cs, ad, S, C, A.imp fun x H1 ⟨c, e1, w⟩ => ⟨c, e1, ?_⟩⟩
  cases c with
  | true => exact w
  | false => obtain ⟨sl, cs, ad, S, C, A⟩ := w; exact A _ H1 ad Ex.refl C rfl
theorem m_vor {a b : Expr} {r : List Expr} {pos : Pos} {d k : D SV} (h : ME g W X a d) (hr : ME g W X (.BoolOp .Or (b :: r) pos) k) : ME g W X (.BoolOp .Or (a :: b :: r) pos) (dOrV d k) := by
  refine PE.cons (pe_or h hr) fun σ H Q hw => ?_
  have q := rd_first (rel2 := relE g) (k := fun r sl c => if r = true then .ok (.t (.bool true)) c else k sl c) σ H Q hw
  obtain ⟨sl, cs, ad, S, C, A⟩ := q
  refine ⟨sl, cs, ad, S, C, A.imp fun x H1 ⟨c, e1, w⟩ => ⟨c, e1, ?_⟩⟩
  cases c with
  | false => exact w
  | true => obtain ⟨sl, cs, ad, S, C, A⟩ := w; exact A _ H1 ad Ex.refl C rfl
theorem m_v1 {op : BoolOp} {a : Expr} {pos : Pos} {d : D SV} (h : ME g W X a d) : ME g W X (.BoolOp op [a] pos) d := pe_one h
theorem m_vnot {a : Expr} {pos : Pos} {d : D SV} (h : ME g W X a d) : ME g W X (.UnaryOp .Not a pos) (dNotV d) := by
  refine PE.cons (pe_not h) fun σ H Q hw => ?_
  have q := rd_first (rel2 := relE g) (k := fun r sl c => .ok (.t (.bool (!r))) c) σ H Q hw
  obtain ⟨sl, cs, ad, S, C, A⟩ := q
  refine ⟨sl, cs, ad, S, C, A.imp fun x H1 ⟨c, e1, w⟩ => ⟨c, e1, ?_⟩⟩
  obtain ⟨sl, cs, ad, S, C, A⟩ := w
  exact A _ H1 ad Ex.refl C rfl
theorem m_if {c a b : Expr} {pos : Pos} {dc : D Bool} {da db : D SV} (hc : MT g W X c dc) (ha : ME g W X a da) (hb : ME g W X b db) : ME g W X (.IfExp c a b pos) (dIf dc da db) := by
  refine PE.cons (pe_ifExp hc ha hb) fun σ H Q hw => ?_
  obtain ⟨sl, cs, ad, S, C, A⟩ := hw
  refine ⟨sl, cs, ad, S, C, Aft.bind (rel := relB) A fun x a c1 H1 ad1 e1 C1 s1 A1 => ?_⟩
  obtain rfl : x = a := s1
  cases x with
  | true => exact ⟨sl, c1, ad1, S.mono e1, C1, A1⟩
  | false => exact ⟨sl, c1, ad1, S.mono e1, C1, A1⟩
/-! ### a op b op c -/
def dChain (h h' : T → T → Option T) (a b c : D SV) : D SV := fun sl cs => (a sl cs).bind fun r1 c1 => (b sl c1).bind fun r2 c2 => (op2 h r1 r2 c2).bind fun r3 c3 =>
  match r3 with
  | .t (.bool true) => (c sl c3).bind fun r4 c4 => op2 h' r2 r4 c4
  | .t (.bool false) => .ok (.t (.bool false)) c3
  | _ => .bad
/-- what a pure operation leaves, for a reading of values -/
theorem OpT.use {r : R2} {h : T → T → Option T} (o : OpT r h) {σ : L2.St} {H : Hp} {ad : Ad} {cs : Cs} {x y : V} {a b : SV} {Q : VK} {α β : Type} {rel2 : Hp → Ad → β → α → Prop} {k : SV → Cs → R α} {Q2 : β → Hp → Prop} (C : CsR H ad cs) (sa : SvR g H ad x a) (sb : SvR g H ad y b)
    (A : Aft g W σ rel2 H ad ((op2 h a b cs).bind k) Q2) (f : ∀ v t H', Same H H' → CsR H' ad cs → Rp H' ad v t → Aft g W σ rel2 H' ad (k (.t t) cs) Q2 → Q v H') : r x y H Q := by
  unfold op2 at A
  cases ea : res a cs with
  | none => rw [ea] at A; exact A.elim
  | some ta =>
    cases eb : res b cs with
    | none => rw [ea, eb] at A; exact A.elim
    | some tb =>
      rw [ea, eb] at A
      simp only at A
      cases e : h ta tb with
      | none => rw [e] at A; exact A.elim
      | some t =>
        rw [e] at A
        exact o H ad x y ta tb t Q (fun _ m => C.live m) (res_pk C sa ea) (res_pk C sb eb) e fun v H' s q => f v t H' s (C.same s) q (Aft.later (Ex.same s) A)
theorem rd_chain {h h' : T → T → Option T} {r r' : R2} {a b c : D SV} (o : OpT r h) (o' : OpT r' h') (σ : L2.St) (H : Hp) (Q : VK) (hw : rd g W (relE g) (dChain h h' a b c) σ H Q) : tChain r r' (rd g W (relE g) a) (rd g W (relE g) b) (rd g W (relE g) c) σ H Q := by
  obtain ⟨sl, cs, ad, S, C, A⟩ := hw
  refine ⟨sl, cs, ad, S, C, Aft.bind (rel := relE g) A fun x ra c1 H1 ad1 e1 C1 s1 A1 => ?_⟩
  refine ⟨sl, c1, ad1, S.mono e1, C1, Aft.bind (rel := relE g) A1 fun y rb c2 H2 ad2 e2 C2 s2 A2 => ?_⟩
  refine OpT.use o C2 (s1.mono e2) s2 A2 fun v t H3 sm C3 p A3 => ?_
  have e3 : Ex H2 ad2 H3 ad2 := Ex.same sm
  cases t <;> first | exact A3.elim | skip
  rename_i bb
  refine ⟨bb, p, ?_⟩
  cases bb with
  | false => exact A3 _ H3 ad2 Ex.refl C3 rfl
  | true =>
    refine ⟨sl, c2, ad2, ((S.mono e1).mono e2).mono e3, C3, Aft.bind (rel := relE g) A3 fun z rc c4 H4 ad4 e4 C4 s4 A4 => ?_⟩
    exact opS_of o' W σ H4 ad4 c4 y z rb rc Q C4 ((s2.mono e3).mono e4) s4 A4
theorem m_chain {op op' : CmpOp} {a b c : Expr} {pos : Pos} {da db dc : D SV} {h h' : T → T → Option T} (o : ∃ r, OpR X (compareOp op) r ∧ OpT r h) (o' : ∃ r, OpR X (compareOp op') r ∧ OpT r h') (ha : ME g W X a da) (hb : ME g W X b db) (hc : ME g W X c dc)
    (hm : lastMarks [op, op'] [b, c] = false := by with_unfolding_all rfl) : ME g W X (.Compare a [op, op'] [b, c] pos) (dChain h h' da db dc) := by
  obtain ⟨r, o1, o2⟩ := o
  obtain ⟨r', o3, o4⟩ := o'
  exact PE.cons (pe_chain o1 o3 ha hb hc hm) (rd_chain o2 o4)
theorem m_tchain {op op' : CmpOp} {a b c : Expr} {pos : Pos} {da db dc : D SV} {h h' : T → T → Option T} (o : ∃ r, OpR X (compareOp op) r ∧ OpT r h) (o' : ∃ r, OpR X (compareOp op') r ∧ OpT r h') (ha : ME g W X a da) (hb : ME g W X b db) (hc : ME g W X c dc)
    (hm : lastMarks [op, op'] [b, c] = false := by with_unfolding_all rfl) : MT g W X (.Compare a [op, op'] [b, c] pos) (dTest (dChain h h' da db dc)) := by
  obtain ⟨r, o1, o2⟩ := o
  obtain ⟨r', o3, o4⟩ := o'
  exact PT.cons (pt_chain o1 o3 ha hb hc hm) fun σ H Q hw => rd_chain o2 o4 σ H _ (rd_test σ H Q hw)
/-! ### -a -/
def dUn (h : T → Option T) (a : D SV) : D SV := fun sl cs => (a sl cs).bind fun r c => op1 h r c
def UnT (r : V → Hp → VK → Prop) (h : T → Option T) : Prop := ∀ (H : Hp) (ad : Ad) (x : V) (ta t : T) (Q : VK), (∀ a, some a ∈ ad → H a ≠ none) → Pk H ad x ta → h ta = some t → (∀ v H', Same H H' → Rp H' ad v t → Q v H') → r x H Q
theorem UnT.use {r : V → Hp → VK → Prop} {h : T → Option T} (o : UnT r h) {σ : L2.St} {H : Hp} {ad : Ad} {cs : Cs} {x : V} {a : SV} {Q : VK} (C : CsR H ad cs) (sa : SvR g H ad x a) (A : Aft g W σ (relE g) H ad (op1 h a cs) Q) : r x H Q := by
  unfold op1 at A
  cases ea : res a cs with
  | none => rw [ea] at A; exact A.elim
  | some ta =>
    rw [ea] at A
    simp only at A
    cases e : h ta with
    | none => rw [e] at A; exact A.elim
    | some t =>
      rw [e] at A
      exact o H ad x ta t Q (fun _ m => C.live m) (res_pk C sa ea) e fun v H' s q => A v H' ad (Ex.same s) (C.same s) q
def negT : T → Option T
  | .int i => some (.int (-i))
  | _ => none
theorem m_neg {a : Expr} {pos : Pos} {d : D SV} (h : ME g W X a d) : ME g W X (.UnaryOp .USub a pos) (dUn negT d) := by
  refine PE.cons (pe_un un_neg h) fun σ H Q hw => ?_
  obtain ⟨sl, cs, ad, S, C, A⟩ := hw
  refine ⟨sl, cs, ad, S, C, Aft.bind (rel := relE g) A fun x a c1 H1 ad1 e1 C1 s1 A1 => ?_⟩
  refine UnT.use (r := rU fun i => .int (-i)) (h := negT) (fun H ad x ta t Q lv hx e k => ?_) C1 s1 A1
  cases ta <;> first | (simp [negT] at e; done) | skip
  cases e
  exact ⟨_, hx, k _ _ same_refl rfl⟩
/-! ### arguments and displays -/
def dNil : D (List SV) := fun _ cs => .ok [] cs
def dCons (a : D SV) (r : D (List SV)) : D (List SV) := fun sl cs => (a sl cs).bind fun x c => (r sl c).bind fun xs c2 => .ok (x :: xs) c2
def seqT : T → Option (List T)
  | .tuple ts => some ts
  | .list ts => some ts
  | _ => none
def dStar (a : D SV) (r : D (List SV)) : D (List SV) := fun sl cs => (a sl cs).bind fun x c => match res x c with
  | some t => (match seqT t with
    | some ts => (r sl c).bind fun xs c2 => .ok (ts.map .t ++ xs) c2
    | none => .bad)
  | none => .bad
theorem m_nil : MA g W X [] dNil := PA.cons pa_nil fun σ H Q hw => by
  obtain ⟨sl, cs, ad, S, C, A⟩ := hw
  exact A [] H ad Ex.refl C rfl
theorem rd_cons {a : D SV} {r : D (List SV)} (σ : L2.St) (H : Hp) (Q : List V → Hp → Prop) (hw : rd g W (relA g) (dCons a r) σ H Q) : tCons (rd g W (relE g) a) (rd g W (relA g) r) σ H Q := by
  obtain ⟨sl, cs, ad, S, C, A⟩ := hw
  refine ⟨sl, cs, ad, S, C, Aft.bind (rel := relE g) A fun x ra c1 H1 ad1 e1 C1 s1 A1 => ?_⟩
  refine ⟨sl, c1, ad1, S.mono e1, C1, Aft.bind (rel := relA g) A1 fun y rb c2 H2 ad2 e2 C2 s2 A2 => ?_⟩
  exact A2 _ H2 ad2 Ex.refl C2 ⟨x, y, rfl, s1.mono e2, s2⟩
theorem m_cons {e : Expr} {es : List Expr} {a : D SV} {r : D (List SV)} (h : ME g W X e a) (hr : MA g W X es r) (hs : starEach (e :: es) X.env = (false, eval e X.env) :: starEach es X.env := by rfl) : MA g W X (e :: es) (dCons a r) := PA.cons (pa_cons h hr hs) rd_cons
theorem svs_of {H : Hp} {ad : Ad} : ∀ {ts : List T} {xs : List V}, Rps H ad xs ts → SvsR g H ad xs (ts.map .t)
  | [], xs, h => h
  | t :: ts, _, ⟨x, r, h1, h2, h3⟩ => ⟨x, r, h1, h2, svs_of h3⟩
theorem svs_append {H : Hp} {ad : Ad} : ∀ {rs qs : List SV} {xs ys : List V}, SvsR g H ad xs rs → SvsR g H ad ys qs → SvsR g H ad (xs ++ ys) (rs ++ qs)
  | [], _, xs, _, h, k => by have h : xs = [] := h; subst h; exact k
  | t :: ts, _, _, _, ⟨x, r, h1, h2, h3⟩, k => ⟨x, r ++ _, by rw [h1]; rfl, h2, svs_append h3 k⟩
theorem m_star {e : Expr} {p : Pos} {es : List Expr} {a : D SV} {r : D (List SV)} (h : ME g W X e a) (hr : MA g W X es r) (hs : starEach (.Starred e p :: es) X.env = (true, eval e X.env) :: starEach es X.env := by rfl) : MA g W X (.Starred e p :: es) (dStar a r) := by
  refine PA.cons (StX.pa_star h hr hs) fun σ H Q hw => ?_
  obtain ⟨sl, cs, ad, S, C, A⟩ := hw
  refine ⟨sl, cs, ad, S, C, Aft.bind (rel := relE g) A fun x ra c1 H1 ad1 e1 C1 s1 A1 => ?_⟩
  cases z : res ra c1 with
  | none => rw [z] at A1; exact A1.elim
  | some t =>
    rw [z] at A1
    have p := res_pk C1 s1 z
    simp only at A1
    cases q : seqT t with
    | none => rw [q] at A1; exact A1.elim
    | some ts =>
      rw [q] at A1
      simp only at A1
      have key : ∃ b xs, x = V.ref b ∧ (SqT X.K H1 b xs ∨ SqL X.K H1 b xs) ∧ Rps H1 ad1 xs ts := by
        cases t <;> first | (simp [seqT] at q; done) | skip
        · simp only [seqT, Option.some.injEq] at q
          subst q
          obtain ⟨b, xs, rfl, h2, h4⟩ := p
          exact ⟨b, xs, rfl, .inr (SqL.of h2), h4⟩
        · simp only [seqT, Option.some.injEq] at q
          subst q
          obtain ⟨b, xs, rfl, h2, h3, h4⟩ := p
          exact ⟨b, xs, rfl, .inl (SqT.of h2), h4⟩
      obtain ⟨b, xs, k1, k2, k3⟩ := key
      refine ⟨b, xs, k1, k2, sl, c1, ad1, S.mono e1, C1, Aft.bind (rel := relA g) A1 fun ys rb c2 H2 ad2 e2 C2 s2 A2 => ?_⟩
      exact A2 _ H2 ad2 Ex.refl C2 (svs_append (svs_of (Rps.mono e2 _ _ k3)) s2)
/-- a name's value is given up as data -/
def take1 (r : SV) (cs : Cs) : Option (T × Cs) :=
  match r with
  | .t t => some (t, cs)
  | .c i => match cs[i]? with
    | some (.lst ts) => some (.list ts, cs.set i .dead)
    | some (.dct ts) => some (.dict ts, cs.set i .dead)
    | _ => none
  | .x _ => none
def takes : List SV → Cs → Option (List T × Cs)
  | [], cs => some ([], cs)
  | r :: rs, cs => match take1 r cs with
    | some (t, c1) => (match takes rs c1 with
      | some (ts, c2) => some (t :: ts, c2)
      | none => none)
    | none => none
theorem Cl.later {H H' : Hp} {ad ad' : Ad} {o : Option Addr} {c : C} (e : Ex H ad H' ad') (hk : ∀ a, o = some a → ∀ u, H a = some u → H' a = some u) (h : Cl H ad o c) : Cl H' ad' o c := by
  cases o with
  | none => cases c <;> exact h
  | some a =>
    cases c with
    | dead => exact h
    | lst ts => obtain ⟨xs, h1, h2⟩ := h; exact ⟨xs, hk a rfl _ h1, Rps.mono e _ _ h2⟩
    | lock ts => obtain ⟨xs, h1, h2⟩ := h; exact ⟨xs, hk a rfl _ h1, Rps.mono e _ _ h2⟩
    | dct ts => obtain ⟨xs, h1, h2⟩ := h; exact ⟨xs, hk a rfl _ h1, RpKs.mono e _ _ h2⟩
theorem mem_kill {ad : Ad} {i : Nat} {a : Addr} (m : some a ∈ ad.set i none) : some a ∈ ad := by
  rcases List.mem_or_eq_of_mem_set m with h | h
  · exact h
  · cases h
/-- a cell dies -/
theorem CsR.kill {H : Hp} {ad : Ad} {cs : Cs} (c : CsR H ad cs) (i : Nat) : Ex H ad H (ad.set i none) ∧ CsR H (ad.set i none) (cs.set i .dead) := by
  have e : Ex H ad H (ad.set i none) := by
    refine ⟨fun _ _ q _ _ => q, fun P q _ h => h.sub fun a _ n m => n (mem_kill m), fun _ q => q, by simp, fun j a q hl => ?_, fun j a q hl => ?_⟩
    · rw [List.getElem?_set] at q
      by_cases hj : i = j
      · rw [if_pos hj] at q; split at q <;> cases q
      · rw [if_neg hj] at q; exact q
    · rw [List.getElem?_set] at q
      by_cases hj : i = j
      · rw [if_pos hj] at q; split at q <;> cases q
      · rw [if_neg hj] at q; exact absurd (List.getElem?_eq_some_iff.mp q).1 (by omega)
  refine ⟨e, by simp [c.len], fun j k a q1 q2 => c.inj j k a ?_ ?_, fun j o k q1 q2 => ?_⟩
  · exact e.old j a q1 (by have := (List.getElem?_eq_some_iff.mp q1).1; simpa using this)
  · exact e.old k a q2 (by have := (List.getElem?_eq_some_iff.mp q2).1; simpa using this)
  · rw [List.getElem?_set] at q1 q2
    by_cases hj : i = j
    · rw [if_pos hj] at q1 q2
      split at q1 <;> split at q2 <;> cases q1 <;> cases q2
      trivial
    · rw [if_neg hj] at q1 q2
      exact Cl.later e (fun a _ u q => q) (c.cell j o k q1 q2)
theorem take1_ok {H : Hp} {ad : Ad} {cs cs' : Cs} {v : V} {r : SV} {t : T} (c : CsR H ad cs) (s : SvR g H ad v r) (e : take1 r cs = some (t, cs')) : ∃ ad', Ex H ad H ad' ∧ CsR H ad' cs' ∧ Rp H ad' v t := by
  cases r with
  | t u => cases e; exact ⟨ad, Ex.refl, c, s⟩
  | x x => cases e
  | c i =>
    obtain ⟨h1, h2⟩ := s
    obtain ⟨e1, c1⟩ := c.kill i
    have hl : i < ad.length := h1
    have no : ∀ a, ad[i]? = some (some a) → some a ∉ ad.set i none := fun a q m => by
      obtain ⟨j, hj⟩ := List.mem_iff_getElem?.mp m
      have hj' := e1.old j a hj (by have := (List.getElem?_eq_some_iff.mp hj).1; simpa using this)
      have z := c.inj i j a q hj'
      subst z
      rw [List.getElem?_set, if_pos rfl, if_pos hl] at hj
      cases hj
    cases q : cs[i]? with
    | none => simp [take1, q] at e
    | some k =>
      have z := c.cell i ad[i] k (by simp [hl]) q
      cases o : ad[i] with
      | none =>
        rw [o] at z
        cases k <;> first | exact z.elim | (simp [take1, q] at e)
      | some a =>
        have ha : ad[i]? = some (some a) := by rw [List.getElem?_eq_getElem hl, o]
        rw [o] at z
        cases k with
        | dead => exact z.elim
        | lock ts => simp [take1, q] at e
        | lst ts =>
          simp only [take1, q, Option.some.injEq, Prod.mk.injEq] at e
          obtain ⟨rfl, rfl⟩ := e
          obtain ⟨xs, z1, z2⟩ := z
          exact ⟨_, e1, c1, a, xs, h2 a ha, z1, no a ha, Rps.mono e1 _ _ z2⟩
        | dct ts =>
          simp only [take1, q, Option.some.injEq, Prod.mk.injEq] at e
          obtain ⟨rfl, rfl⟩ := e
          obtain ⟨xs, z1, z2⟩ := z
          exact ⟨_, e1, c1, a, xs, h2 a ha, .inl z1, no a ha, RpKs.mono e1 _ _ z2⟩
theorem takes_ok {H : Hp} : ∀ {rs : List SV} {ad : Ad} {cs cs' : Cs} {vs : List V} {ts : List T}, CsR H ad cs → SvsR g H ad vs rs → takes rs cs = some (ts, cs') → ∃ ad', Ex H ad H ad' ∧ CsR H ad' cs' ∧ Rps H ad' vs ts
  | [], ad, cs, _, vs, _, c, s, e => by cases e; exact ⟨ad, Ex.refl, c, s⟩
  | r :: rs, ad, cs, cs', _, ts, c, ⟨v, q, h1, h2, h3⟩, e => by
    subst h1
    unfold takes at e
    cases z : take1 r cs with
    | none => rw [z] at e; cases e
    | some p =>
      obtain ⟨t, c1⟩ := p
      rw [z] at e
      simp only at e
      obtain ⟨ad1, e1, k1, r1⟩ := take1_ok c h2 z
      cases z2 : takes rs c1 with
      | none => rw [z2] at e; cases e
      | some p2 =>
        obtain ⟨ts2, c2⟩ := p2
        rw [z2] at e
        simp only [Option.some.injEq, Prod.mk.injEq] at e
        obtain ⟨rfl, rfl⟩ := e
        obtain ⟨ad2, e2, k2, r2⟩ := takes_ok k1 (SvsR.mono e1 h3) z2
        exact ⟨ad2, e1.trans e2, k2, v, q, rfl, Rp.mono e2 _ _ r1, r2⟩
def dTup (a : D (List SV)) : D SV := fun sl cs => (a sl cs).bind fun rs c => match takes rs c with
  | some (ts, c') => if ts.length ≤ sizeLine then .ok (.t (.tuple ts)) c' else .bad
  | none => .bad
def dLst (a : D (List SV)) : D SV := fun sl cs => (a sl cs).bind fun rs c => match takes rs c with
  | some (ts, c') => if ts.length ≤ sizeLine then .ok (.t (.list ts)) c' else .bad
  | none => .bad
theorem takes_len : ∀ {rs : List SV} {cs cs' : Cs} {ts : List T}, takes rs cs = some (ts, cs') → ts.length = rs.length
  | [], _, _, _, e => by cases e; rfl
  | r :: rs, cs, cs', ts, e => by
    unfold takes at e
    cases z : take1 r cs with
    | none => rw [z] at e; cases e
    | some p =>
      rw [z] at e
      simp only at e
      cases z2 : takes rs p.2 with
      | none => rw [z2] at e; cases e
      | some p2 =>
        rw [z2] at e
        simp only [Option.some.injEq, Prod.mk.injEq] at e
        obtain ⟨rfl, rfl⟩ := e
        rw [List.length_cons, List.length_cons, takes_len z2]
theorem m_tup {es : List Expr} {k : Nat} {pos : Pos} {a : D (List SV)} (h : MA g W X es a) : ME g W X (.Tuple es k pos) (dTup a) := by
  refine PE.cons (pe_tup h) fun σ H Q hw => ?_
  obtain ⟨sl, cs, ad, S, C, A⟩ := hw
  refine ⟨sl, cs, ad, S, C, Aft.bind (rel := relA g) A fun xs rs c1 H1 ad1 e1 C1 s1 A1 => ?_⟩
  cases z : takes rs c1 with
  | none => rw [z] at A1; exact A1.elim
  | some p =>
    obtain ⟨ts, c2⟩ := p
    rw [z] at A1
    simp only at A1
    obtain ⟨ad2, e2, C2, r2⟩ := takes_ok C1 s1 z
    split at A1
    · rename_i hl
      refine ⟨by rw [r2.len]; exact hl, fun p np => ?_⟩
      have sm : Same H1 (upd H1 p (.tup xs)) := Same.new np
      exact A1 _ _ ad2 (e2.trans (Ex.same sm)) (C2.same sm) ⟨p, xs, rfl, upd_same, fun m => C2.live m np, Rps.mono (Ex.same sm) _ _ r2⟩
    · exact A1.elim
theorem m_lst {es : List Expr} {pos : Pos} {a : D (List SV)} (h : MA g W X es a) : ME g W X (.List es pos) (dLst a) := by
  refine PE.cons (pe_lst h) fun σ H Q hw => ?_
  obtain ⟨sl, cs, ad, S, C, A⟩ := hw
  refine ⟨sl, cs, ad, S, C, Aft.bind (rel := relA g) A fun xs rs c1 H1 ad1 e1 C1 s1 A1 => ?_⟩
  cases z : takes rs c1 with
  | none => rw [z] at A1; exact A1.elim
  | some p =>
    obtain ⟨ts, c2⟩ := p
    rw [z] at A1
    simp only at A1
    obtain ⟨ad2, e2, C2, r2⟩ := takes_ok C1 s1 z
    split at A1
    · rename_i hl
      refine ⟨by rw [r2.len]; exact hl, fun p np => ?_⟩
      have sm : Same H1 (upd H1 p (.lst xs)) := Same.new np
      exact A1 _ _ ad2 (e2.trans (Ex.same sm)) (C2.same sm) ⟨p, xs, rfl, upd_same, fun m => C2.live m np, Rps.mono (Ex.same sm) _ _ r2⟩
    · exact A1.elim
/-- a new cell -/
theorem exNew {H : Hp} {ad : Ad} {p : Addr} (np : H p = none) {o : HO} : Ex H ad (upd H p o) (ad ++ [some p]) := by
  have sm : Same H (upd H p o) := Same.new np
  refine ⟨fun a u q _ _ => sm a u q, fun P q _ h => (h.sub fun a ha n m => by
    rw [List.mem_append, List.mem_singleton] at m
    rcases m with m | m
    · exact n m
    · cases m; exact ha np).same sm, fun a q => ?_, by simp, fun i a q hl => ?_, fun i a q hl => ?_⟩
  · obtain ⟨u, q1, q2⟩ := q
    exact ⟨u, sm a u q1, q2⟩
  · rw [List.getElem?_append_left hl] at q; exact q
  · rw [List.getElem?_append_right hl] at q
    have : i - ad.length = 0 := by
      have := (List.getElem?_eq_some_iff.mp q).1
      simp at this; omega
    rw [this] at q
    cases q
    exact fun ⟨o, z, _⟩ => by rw [np] at z; cases z
theorem CsR.new {H : Hp} {ad : Ad} {cs : Cs} (c : CsR H ad cs) {p : Addr} (np : H p = none) {o : HO} {k : C} (hk : Cl (upd H p o) (ad ++ [some p]) (some p) k) : Ex H ad (upd H p o) (ad ++ [some p]) ∧ CsR (upd H p o) (ad ++ [some p]) (cs ++ [k]) := by
  have sm : Same H (upd H p o) := Same.new np
  have e : Ex H ad (upd H p o) (ad ++ [some p]) := exNew np
  refine ⟨e, by simp [c.len], fun i j a q1 q2 => ?_, fun i o' k' q1 q2 => ?_⟩
  · have fr : ∀ n : Nat, (ad ++ [some p])[n]? = some (some a) → (n < ad.length ∧ ad[n]? = some (some a)) ∨ (n = ad.length ∧ a = p) := fun n q => by
      rcases Nat.lt_or_ge n ad.length with hl | hl
      · rw [List.getElem?_append_left hl] at q; exact .inl ⟨hl, q⟩
      · rw [List.getElem?_append_right hl] at q
        have z : n - ad.length = 0 := by
          have := (List.getElem?_eq_some_iff.mp q).1
          simp at this; omega
        rw [z] at q
        cases q
        exact .inr ⟨by omega, rfl⟩
    rcases fr i q1 with ⟨l1, z1⟩ | ⟨l1, rfl⟩
    · rcases fr j q2 with ⟨l2, z2⟩ | ⟨l2, rfl⟩
      · exact c.inj i j a z1 z2
      · exact absurd np (c.live (List.mem_iff_getElem?.mpr ⟨i, z1⟩))
    · rcases fr j q2 with ⟨l2, z2⟩ | ⟨l2, _⟩
      · exact absurd np (c.live (List.mem_iff_getElem?.mpr ⟨j, z2⟩))
      · omega
  · rcases Nat.lt_or_ge i ad.length with hl | hl
    · rw [List.getElem?_append_left hl] at q1
      rw [List.getElem?_append_left (by rw [← c.len]; exact hl)] at q2
      exact Cl.later e (fun a _ u q => sm a u q) (c.cell i o' k' q1 q2)
    · rw [List.getElem?_append_right hl] at q1
      rw [List.getElem?_append_right (by rw [← c.len]; exact hl)] at q2
      have z : i - ad.length = 0 := by
        have := (List.getElem?_eq_some_iff.mp q1).1
        simp at this; omega
      have z' : i - cs.length = 0 := by rw [← c.len]; exact z
      rw [z] at q1; rw [z'] at q2
      cases q1; cases q2
      exact hk
/-- a list that will change -/
def dLstN (a : D (List SV)) : D SV := fun sl cs => (a sl cs).bind fun rs c => match takes rs c with
  | some (ts, c') => if ts.length ≤ sizeLine then .ok (.c c'.length) (c' ++ [.lst ts]) else .bad
  | none => .bad
theorem m_lstN {es : List Expr} {pos : Pos} {a : D (List SV)} (h : MA g W X es a) : ME g W X (.List es pos) (dLstN a) := by
  refine PE.cons (pe_lst h) fun σ H Q hw => ?_
  obtain ⟨sl, cs, ad, S, C, A⟩ := hw
  refine ⟨sl, cs, ad, S, C, Aft.bind (rel := relA g) A fun xs rs c1 H1 ad1 e1 C1 s1 A1 => ?_⟩
  cases z : takes rs c1 with
  | none => rw [z] at A1; exact A1.elim
  | some p =>
    obtain ⟨ts, c2⟩ := p
    rw [z] at A1
    simp only at A1
    obtain ⟨ad2, e2, C2, r2⟩ := takes_ok C1 s1 z
    split at A1
    · rename_i hl
      refine ⟨by rw [r2.len]; exact hl, fun p np => ?_⟩
      have sm : Same H1 (upd H1 p (.lst xs)) := Same.new np
      obtain ⟨e3, C3⟩ := C2.new (k := .lst ts) (o := .lst xs) np ⟨xs, upd_same, Rps.mono (exNew np) _ _ r2⟩
      exact A1 _ _ _ (e2.trans e3) C3 ⟨by simp [C2.len], fun a q => by
        rw [← C2.len, List.getElem?_append_right (Nat.le_refl _), Nat.sub_self] at q
        cases q; rfl⟩
    · exact A1.elim
end
end Mi
set_option Elab.async false
set_option linter.all false
set_option autoImplicit false
set_option maxRecDepth 100000
set_option maxHeartbeats 1000000
namespace Mi
open PySem PySem.Spec PyProof.Rows L2
variable [TbC]
section
variable {X : Cx} {g : G} {W : WX}
/-! ### a[i] -/
def idxT : T → T → Option T
  | .list ts, .int i => atI ts i
  | .tuple ts, .int i => atI ts i
  | .str z, .int i => if z.length ≤ sizeLine then (atI z.cps.toList i).map fun c => .str ⟨#[c]⟩ else none
  | _, _ => none
theorem Rps.at {H : Hp} {ad : Ad} {ts : List T} {xs : List V} {i : Int} {t : T} (h : Rps H ad xs ts) (e : atI ts i = some t) : ∃ x, atI xs i = some x ∧ Rp H ad x t := by
  unfold atI at e ⊢
  rw [h.len]
  cases z : ixN ts.length i with
  | none => rw [z] at e; cases e
  | some j =>
    rw [z] at e
    exact h.get e
theorem or_idx : OpT (rIx X.K) idxT := by
  intro H ad x y ta tb t Q lv hx hy e k
  cases ta <;> cases tb <;> first | (simp [idxT] at e; done) | skip
  case str.int z i =>
    simp only [idxT] at e
    split at e
    · rename_i hl
      obtain ⟨c, e1, rfl⟩ := Option.map_eq_some_iff.mp e
      exact .inr (.inr ⟨z, i, c, hx, hy, hl, e1, k _ _ same_refl rfl⟩)
    · cases e
  case list.int ts i =>
    simp only [idxT] at e
    obtain ⟨a, xs, rfl, h2, h4⟩ := hx
    obtain ⟨v, e1, r1⟩ := h4.at e
    exact .inl ⟨a, xs, i, v, rfl, hy, SqL.of h2, e1, k _ _ same_refl r1⟩
  case tuple.int ts i =>
    simp only [idxT] at e
    obtain ⟨a, xs, rfl, h2, h3, h4⟩ := hx
    obtain ⟨v, e1, r1⟩ := h4.at e
    exact .inr (.inl ⟨a, xs, i, v, rfl, hy, SqT.of h2, e1, k _ _ same_refl r1⟩)
def dIdx (a b : D SV) : D SV := dBin (op2 idxT) a b
theorem m_idx {a b : Expr} {pos : Pos} {da db : D SV} (ha : ME g W X a da) (hb : ME g W X b db) (hs : PlainIx b) : ME g W X (.Subscript a b pos) (dIdx da db) := PE.cons (pe_ix ix_seq ha hb hs) (rd_bin (opS_of or_idx))
/-! ### a[lo:hi] -/
def MO (g : G) (W : WX) (X : Cx) (e : Option Expr) (d : D (Option Int)) : Prop := PO X e (rd g W (fun _ _ b a => b = a) d)
def dNo : D (Option Int) := fun _ cs => .ok none cs
def dPart (a : D SV) : D (Option Int) := fun sl cs => (a sl cs).bind fun r c => match res r c with
  | some (.int i) => .ok (some i) c
  | _ => .bad
theorem PO.cons {e : Option Expr} {t t' : TO} (h : PO X e t) (f : ∀ σ H Q, t' σ H Q → t σ H Q) : PO X e t' := ⟨fun pins s σ H Q I hw => h.run pins s σ H Q I (f σ H Q hw)⟩
theorem m_no : MO g W X none dNo := PO.cons po_none fun σ H Q hw => by
  obtain ⟨sl, cs, ad, S, C, A⟩ := hw
  exact A _ H ad Ex.refl C rfl
theorem m_part {e : Expr} {d : D SV} (h : ME g W X e d) : MO g W X (some e) (dPart d) := PO.cons (po_some h) fun σ H Q hw => by
  obtain ⟨sl, cs, ad, S, C, A⟩ := hw
  refine ⟨sl, cs, ad, S, C, Aft.bind (rel := relE g) A fun x a c1 H1 ad1 e1 C1 s1 A1 => ?_⟩
  cases z : res a c1 with
  | none => rw [z] at A1; exact A1.elim
  | some t =>
    rw [z] at A1
    have p := res_pk C1 s1 z
    cases t <;> first | exact A1.elim | skip
    exact ⟨_, p, A1 _ H1 ad1 Ex.refl C1 rfl⟩
def cutT (ts : List T) (lo hi : Option Int) : List T := (ts.drop (HT.sIx ts.length 0 lo)).take (HT.sIx ts.length ts.length hi - HT.sIx ts.length 0 lo)
def sliceT (t : T) (lo hi : Option Int) : Option T :=
  match t with
  | .list ts => some (.list (cutT ts lo hi))
  | .tuple ts => some (.tuple (cutT ts lo hi))
  | .str z => if z.length ≤ sizeLine then some (.str (cutS z lo hi)) else none
  | _ => none
def dSlc (a : D SV) (lo hi : D (Option Int)) : D SV := fun sl cs => (a sl cs).bind fun r c => (lo sl c).bind fun l c1 => (hi sl c1).bind fun h c2 => op1 (fun t => sliceT t l h) r c2
theorem Rps.cut {H : Hp} {ad : Ad} {ts : List T} {xs : List V} (h : Rps H ad xs ts) (lo hi : Option Int) : Rps H ad (cutV xs lo hi) (cutT ts lo hi) := by
  unfold cutV cutT
  rw [h.len]
  exact Rps.take _ (Rps.drop _ h)
theorem cut_all {ts : List T} {lo hi : Option Int} (h : HT.sIx ts.length 0 lo = 0 ∧ HT.sIx ts.length ts.length hi = ts.length) : cutT ts lo hi = ts := by
  unfold cutT
  rw [h.1, h.2]
  simp
theorem m_slc {a : Expr} {lo hi : Option Expr} {p2 pos : Pos} {da : D SV} {dl dh : D (Option Int)} (ha : ME g W X a da) (hl : MO g W X lo dl) (hh : MO g W X hi dh) : ME g W X (.Subscript a (.Slice lo hi none p2) pos) (dSlc da dl dh) := by
  refine PE.cons (pe_slice (SlR.or sl_list (SlR.or sl_tupA sl_str)) ha hl hh) fun σ H Q hw => ?_
  obtain ⟨sl, cs, ad, S, C, A⟩ := hw
  refine ⟨sl, cs, ad, S, C, Aft.bind (rel := relE g) A fun x ra c1 H1 ad1 e1 C1 s1 A1 => ?_⟩
  refine ⟨sl, c1, ad1, S.mono e1, C1, Aft.bind (rel := fun _ _ b a => b = a) A1 fun l l' c2 H2 ad2 e2 C2 s2 A2 => ?_⟩
  subst s2
  refine ⟨sl, c2, ad2, (S.mono e1).mono e2, C2, Aft.bind (rel := fun _ _ b a => b = a) A2 fun u u' c3 H3 ad3 e3 C3 s3 A3 => ?_⟩
  subst s3
  refine UnT.use (r := fun x H Q => rSlL X.K x l u H Q ∨ rSlA X.K x l u H Q ∨ rSlS x l u H Q) (h := fun t => sliceT t l u) (fun H ad x ta t Q lv hx e k => ?_) C3 ((s1.mono e2).mono e3) A3
  cases ta <;> first | (simp [sliceT] at e; done) | skip
  case str z =>
    simp only [sliceT] at e
    split at e
    · rename_i hl
      cases e
      exact .inr (.inr ⟨z, hx, hl, k _ _ same_refl rfl⟩)
    · cases e
  case list ts =>
    simp only [sliceT, Option.some.injEq] at e
    subst e
    obtain ⟨b, xs, rfl, h2, h4⟩ := hx
    exact .inl ⟨b, xs, rfl, SqL.of h2, fun p np => k _ _ (Same.new np) ⟨p, _, rfl, upd_same, fun m => lv p m np, Rps.mono (Ex.same (Same.new np)) _ _ (h4.cut l u)⟩⟩
  case tuple ts =>
    simp only [sliceT, Option.some.injEq] at e
    subst e
    obtain ⟨b, xs, rfl, h2, h3, h4⟩ := hx
    refine .inr (.inl ⟨b, xs, rfl, SqT.of h2, fun q => ?_, fun q p np => ?_⟩)
    · rw [h4.len] at q
      exact k _ _ same_refl (by rw [cut_all q]; exact ⟨b, xs, rfl, h2, h3, h4⟩)
    · exact k _ _ (Same.new np) ⟨p, _, rfl, upd_same, fun m => lv p m np, Rps.mono (Ex.same (Same.new np)) _ _ (h4.cut l u)⟩
/-! ### calls of what is built in -/
def CallT (r : List V → Hp → VK → Prop) (h : T → Option T) : Prop := UnT (fun x H Q => r [x] H Q) h
theorem m_b1 {id : String} {x : Str} {p pos : Pos} {a : Expr} {d : D SV} {h : T → Option T} (o : ∃ r, CallR X (.builtin id) r ∧ CallT r h) (hg : Gl X x) (hm : X.mg x = none) (hv : bootBuiltins x = some (.builtin id)) (ha : ME g W X a d) (hn : x ≠ "__name__" := by decide) (hdb : (x == ("__debug__" : Str)) = false := by decide)
    (he : starEach [a] X.env = (false, eval a X.env) :: starEach [] X.env := by rfl) : ME g W X (.Call (.Name x p) [a] [] pos) (dUn h d) := by
  obtain ⟨r, o1, o2⟩ := o
  refine PE.cons (pe_callB o1 hg hm hv (pa_cons ha pa_nil he) hn hdb he rfl) fun σ H Q hw => ?_
  obtain ⟨sl, cs, ad, S, C, A⟩ := hw
  exact ⟨sl, cs, ad, S, C, Aft.bind (rel := relE g) A fun x a c1 H1 ad1 e1 C1 s1 A1 => UnT.use o2 C1 s1 A1⟩
theorem m_t1 {id : String} {x : Str} {p pos : Pos} {a : Expr} {d : D SV} {h : T → Option T} (o : ∃ r, CallR X (.type id) r ∧ CallT r h) (hg : Gl X x) (hm : X.mg x = none) (hv : bootBuiltins x = some (.type id)) (ha : ME g W X a d) (hn : x ≠ "__name__" := by decide) (hdb : (x == ("__debug__" : Str)) = false := by decide)
    (he : starEach [a] X.env = (false, eval a X.env) :: starEach [] X.env := by rfl) : ME g W X (.Call (.Name x p) [a] [] pos) (dUn h d) := by
  obtain ⟨r, o1, o2⟩ := o
  refine PE.cons (pe_callTy o1 hg hm hv (pa_cons ha pa_nil he) hn hdb he rfl) fun σ H Q hw => ?_
  obtain ⟨sl, cs, ad, S, C, A⟩ := hw
  exact ⟨sl, cs, ad, S, C, Aft.bind (rel := relE g) A fun x a c1 H1 ad1 e1 C1 s1 A1 => UnT.use o2 C1 s1 A1⟩
def lenT : T → Option T
  | .str z => if z.length ≤ sizeLine then some (.int z.length) else none
  | .list ts => some (.int ts.length)
  | .tuple ts => some (.int ts.length)
  | _ => none
theorem c_len : ∃ r, CallR X (.builtin "len") r ∧ CallT r lenT := by
  refine ⟨_, call_len, ?_⟩
  intro H ad x ta t Q lv hx e k
  cases ta <;> first | (simp [lenT] at e; done) | skip
  case str z =>
    simp only [lenT] at e
    split at e
    · rename_i hl
      cases e
      obtain rfl : x = .str z := hx
      exact ⟨_, z.length, rfl, ⟨hl, rfl⟩, k _ _ same_refl rfl⟩
    · cases e
  case list ts =>
    cases e
    obtain ⟨b, xs, rfl, h2, h4⟩ := hx
    exact ⟨_, ts.length, rfl, .inl ⟨xs, SqL.of h2, h4.len.symm⟩, k _ _ same_refl rfl⟩
  case tuple ts =>
    cases e
    obtain ⟨b, xs, rfl, h2, h3, h4⟩ := hx
    exact ⟨_, ts.length, rfl, .inr ⟨xs, SqT.of h2, h4.len.symm⟩, k _ _ same_refl rfl⟩
def tupleT : T → Option T
  | .list ts => some (.tuple ts)
  | .tuple ts => some (.tuple ts)
  | _ => none
theorem c_tuple : ∃ r, CallR X (.type "tuple") r ∧ CallT r tupleT := by
  refine ⟨_, call_tuple_of, ?_⟩
  intro H ad x ta t Q lv hx e k
  cases ta <;> first | (simp [tupleT] at e; done) | skip
  case list ts =>
    cases e
    obtain ⟨b, xs, rfl, h2, h4⟩ := hx
    exact ⟨b, xs, rfl, .inl ⟨SqL.of h2, fun p np => k _ _ (Same.new np) ⟨p, _, rfl, upd_same, fun m => lv p m np, Rps.mono (Ex.same (Same.new np)) _ _ h4⟩⟩⟩
  case tuple ts =>
    cases e
    obtain ⟨b, xs, rfl, h2, h3, h4⟩ := hx
    exact ⟨b, xs, rfl, .inr ⟨SqT.of h2, k _ _ same_refl ⟨b, xs, rfl, h2, h3, h4⟩⟩⟩
def listT : T → Option T
  | .list ts => some (.list ts)
  | .tuple ts => some (.list ts)
  | _ => none
theorem c_list : ∃ r, CallR X (.type "list") r ∧ CallT r listT := by
  refine ⟨_, call_list_of, ?_⟩
  intro H ad x ta t Q lv hx e k
  cases ta <;> first | (simp [listT] at e; done) | skip
  case list ts =>
    cases e
    obtain ⟨b, xs, rfl, h2, h4⟩ := hx
    exact ⟨b, xs, rfl, .inl (SqL.of h2), fun p np => k _ _ (Same.new np) ⟨p, _, rfl, upd_same, fun m => lv p m np, Rps.mono (Ex.same (Same.new np)) _ _ h4⟩⟩
  case tuple ts =>
    cases e
    obtain ⟨b, xs, rfl, h2, h3, h4⟩ := hx
    exact ⟨b, xs, rfl, .inr (SqT.of h2), fun p np => k _ _ (Same.new np) ⟨p, _, rfl, upd_same, fun m => lv p m np, Rps.mono (Ex.same (Same.new np)) _ _ h4⟩⟩
def intT : T → Option T
  | .int i => some (.int i)
  | .bool b => some (.int (if b = true then 1 else 0))
  | _ => none
theorem c_int : ∃ r, CallR X (.type "int") r ∧ CallT r intT := by
  refine ⟨_, call_int1, ?_⟩
  intro H ad x ta t Q lv hx e k
  cases ta <;> first | (simp [intT] at e; done) | skip
  case bool b => cases e; obtain rfl : x = .bl b := hx; exact .inr ⟨b, rfl, k _ _ same_refl rfl⟩
  case int i => cases e; obtain rfl : x = .int i := hx; exact .inl ⟨i, rfl, k _ _ same_refl rfl⟩
def strT : T → Option T
  | .int i => if i.natAbs.log2 < 1920 then some (.str (toString i)) else none
  | _ => none
theorem c_str : ∃ r, CallR X (.type "str") r ∧ CallT r strT := by
  refine ⟨_, call_str_int, ?_⟩
  intro H ad x ta t Q lv hx e k
  cases ta <;> first | (simp [strT] at e; done) | skip
  simp only [strT] at e
  split at e
  · rename_i i hl
    cases e
    obtain rfl : x = .int i := hx
    exact ⟨i, rfl, hl, k _ _ same_refl rfl⟩
  · cases e
def boolsT : List T → Option (List Bool)
  | [] => some []
  | .bool b :: ts => (boolsT ts).map (b :: ·)
  | _ => none
theorem bools_vs {H : Hp} {ad : Ad} : ∀ {ts : List T} {bs : List Bool} {xs : List V}, Rps H ad xs ts → boolsT ts = some bs → xs = bs.map V.bl
  | [], bs, xs, h, e => by have h : xs = [] := h; subst h; cases e; rfl
  | .bool b :: ts, bs, _, ⟨x, r, h1, h2, h3⟩, e => by
    simp only [boolsT] at e
    obtain ⟨cs, e1, rfl⟩ := Option.map_eq_some_iff.mp e
    rw [h1, bools_vs h3 e1, show x = V.bl b from h2]; rfl
  | .none :: _, _, _, _, e => by simp [boolsT] at e
  | .int _ :: _, _, _, _, e => by simp [boolsT] at e
  | .str _ :: _, _, _, _, e => by simp [boolsT] at e
  | .list _ :: _, _, _, _, e => by simp [boolsT] at e
  | .tuple _ :: _, _, _, _, e => by simp [boolsT] at e
  | .dict _ :: _, _, _, _, e => by simp [boolsT] at e
def anyT : T → Option T
  | .list ts => (boolsT ts).map fun bs => .bool (bs.any id)
  | _ => none
def allT : T → Option T
  | .list ts => (boolsT ts).map fun bs => .bool (bs.all id)
  | _ => none
theorem c_any (hc : X.calm = true) : ∃ r, CallR X (.builtin "any") r ∧ CallT r anyT := by
  refine ⟨_, cr_any hc, ?_⟩
  intro H ad x ta t Q lv hx e k
  cases ta <;> first | (simp [anyT] at e; done) | skip
  simp only [anyT] at e
  obtain ⟨bs, e1, rfl⟩ := Option.map_eq_some_iff.mp e
  obtain ⟨b, xs, rfl, h2, h4⟩ := hx
  exact ⟨b, bs, rfl, SqL.of (by rw [h2, bools_vs h4 e1]), k _ _ same_refl rfl⟩
theorem c_all (hc : X.calm = true) : ∃ r, CallR X (.builtin "all") r ∧ CallT r allT := by
  refine ⟨_, cr_all hc, ?_⟩
  intro H ad x ta t Q lv hx e k
  cases ta <;> first | (simp [allT] at e; done) | skip
  simp only [allT] at e
  obtain ⟨bs, e1, rfl⟩ := Option.map_eq_some_iff.mp e
  obtain ⟨b, xs, rfl, h2, h4⟩ := hx
  exact ⟨b, bs, rfl, SqL.of (by rw [h2, bools_vs h4 e1]), k _ _ same_refl rfl⟩
/-- max(a, b), min(a, b) -/
def d2 (h : T → T → Option T) (a b : D SV) : D SV := dBin (op2 h) a b
theorem m_b2 {id : String} {x : Str} {p pos : Pos} {a b : Expr} {da db : D SV} {h : T → T → Option T} (o : ∃ r, CallR X (.builtin id) r ∧ OpT (fun x y H Q => r [x, y] H Q) h) (hg : Gl X x) (hm : X.mg x = none) (hv : bootBuiltins x = some (.builtin id)) (ha : ME g W X a da) (hb : ME g W X b db) (hn : x ≠ "__name__" := by decide) (hdb : (x == ("__debug__" : Str)) = false := by decide)
    (he : starEach [a, b] X.env = (false, eval a X.env) :: starEach [b] X.env := by rfl) (he2 : starEach [b] X.env = (false, eval b X.env) :: starEach [] X.env := by rfl) : ME g W X (.Call (.Name x p) [a, b] [] pos) (dBin (op2 h) da db) := by
  obtain ⟨r, o1, o2⟩ := o
  refine PE.cons (pe_callB o1 hg hm hv (pa_cons ha (pa_cons hb pa_nil he2) he) hn hdb he (by rw [he2]; rfl)) fun σ H Q hw => ?_
  exact rd_bin (opS_of o2) σ H Q hw
def minT : T → T → Option T
  | .int i, .int j => some (.int (if j < i then j else i))
  | _, _ => none
def maxT : T → T → Option T
  | .int i, .int j => some (.int (if j > i then j else i))
  | _, _ => none
theorem c_min (hc : X.calm = true) : ∃ r, CallR X (.builtin "min") r ∧ OpT (fun x y H Q => r [x, y] H Q) minT := by
  refine ⟨_, call_min2 hc, ?_⟩
  intro H ad x y ta tb t Q lv hx hy e k
  cases ta <;> cases tb <;> first | (simp [minT] at e; done) | skip
  cases e
  rename_i i j
  obtain rfl : x = .int i := hx
  obtain rfl : y = .int j := hy
  exact ⟨i, j, rfl, k _ _ same_refl rfl⟩
theorem c_max (hc : X.calm = true) : ∃ r, CallR X (.builtin "max") r ∧ OpT (fun x y H Q => r [x, y] H Q) maxT := by
  refine ⟨_, call_max2 hc, ?_⟩
  intro H ad x y ta tb t Q lv hx hy e k
  cases ta <;> cases tb <;> first | (simp [maxT] at e; done) | skip
  cases e
  rename_i i j
  obtain rfl : x = .int i := hx
  obtain rfl : y = .int j := hy
  exact ⟨i, j, rfl, k _ _ same_refl rfl⟩
/-! ### isinstance(x, T) -/
def tyName : T → String
  | .none => "NoneType" | .bool _ => "bool" | .int _ => "int" | .str _ => "str" | .tuple _ => "tuple" | .list _ => "list" | .dict _ => "dict"
theorem tyX_of {H : Hp} {ad : Ad} {x : V} {t : T} (h : Pk H ad x t) : TyX X.K H x (.type (tyName t)) := by
  cases t with
  | none => obtain rfl : x = .non := h; exact .base .non
  | bool b => obtain rfl : x = .bl b := h; exact .base (.bl _)
  | int i => obtain rfl : x = .int i := h; exact .base (.int _)
  | str z => obtain rfl : x = .str z := h; exact .base (.str _)
  | tuple ts => obtain ⟨b, xs, rfl, h2, h3, h4⟩ := h; exact .base (.tup h2)
  | list ts => obtain ⟨b, xs, rfl, h2, h4⟩ := h; exact .base (.lst h2)
  | dict ts =>
    obtain ⟨b, kk, rfl, h2, h4⟩ := h
    rcases h2 with h2 | ⟨o, h2⟩
    · exact .base (.dK h2)
    · exact .fDict h2
/-- a class that is asked for, by the types' names that are of it -/
def isiT (f : String → Bool) (t : T) : Option T := some (.bool (f (tyName t)))
theorem kits {K : PySem.W.Frag} {n : String} {f : String → Bool} (h : kitB "NoneType" n = some (f "NoneType") ∧ kitB "bool" n = some (f "bool") ∧ kitB "int" n = some (f "int") ∧ kitB "str" n = some (f "str") ∧ kitB "tuple" n = some (f "tuple") ∧ kitB "list" n = some (f "list") ∧ kitB "dict" n = some (f "dict")) (t : T) :
    PySem.W.kitOne K (.type (tyName t)) (.type n) = some (f (tyName t)) := by
  obtain ⟨h1, h2, h3, h4, h5, h6, h7⟩ := h
  cases t <;> first | exact kit_ty h1 | exact kit_ty h2 | exact kit_ty h3 | exact kit_ty h4 | exact kit_ty h5 | exact kit_ty h6 | exact kit_ty h7
theorem m_isi {n : String} {x y : Str} {p py pos : Pos} {a : Expr} {d : D SV} {f : String → Bool} (hk : kitB "NoneType" n = some (f "NoneType") ∧ kitB "bool" n = some (f "bool") ∧ kitB "int" n = some (f "int") ∧ kitB "str" n = some (f "str") ∧ kitB "tuple" n = some (f "tuple") ∧ kitB "list" n = some (f "list") ∧ kitB "dict" n = some (f "dict"))
    (hg : Gl X x) (hm : X.mg x = none) (hv : bootBuiltins x = some (.builtin "isinstance")) (hy : ∀ pos, PE X (.Name y pos) (tC (.ty n))) (ha : ME g W X a d) (hn : x ≠ "__name__" := by decide) (hdb : (x == ("__debug__" : Str)) = false := by decide)
    (he : starEach [a, .Name y py] X.env = (false, eval a X.env) :: starEach [.Name y py] X.env := by rfl) : ME g W X (.Call (.Name x p) [a, .Name y py] [] pos) (dUn (isiT f) d) := by
  refine PE.cons (pe_callB call_isi hg hm hv (pa_cons ha (pa_cons (hy py) pa_nil rfl) he) hn hdb he rfl) fun σ H Q hw => ?_
  obtain ⟨sl, cs, ad, S, C, A⟩ := hw
  refine ⟨sl, cs, ad, S, C, Aft.bind (rel := relE g) A fun x a c1 H1 ad1 e1 C1 s1 A1 => ?_⟩
  refine UnT.use (r := fun x H Q => rIsi X.K [x, .ty n] H Q) (h := isiT f) (fun H ad x ta t Q lv hx e k => ?_) C1 s1 A1
  cases e
  exact ⟨x, .ty n, _, _, _, rfl, .ty n, tyX_of hx, kits hk ta, k _ _ same_refl rfl⟩
theorem kit_int : kitB "NoneType" "int" = some ((fun s => s == "int" || s == "bool") "NoneType") ∧ kitB "bool" "int" = some ((fun s => s == "int" || s == "bool") "bool") ∧ kitB "int" "int" = some ((fun s => s == "int" || s == "bool") "int") ∧ kitB "str" "int" = some ((fun s => s == "int" || s == "bool") "str") ∧ kitB "tuple" "int" = some ((fun s => s == "int" || s == "bool") "tuple") ∧ kitB "list" "int" = some ((fun s => s == "int" || s == "bool") "list") ∧ kitB "dict" "int" = some ((fun s => s == "int" || s == "bool") "dict") := by decide +kernel
theorem kit_self (n : String) (h : n = "bool" ∨ n = "str" ∨ n = "tuple" ∨ n = "list" ∨ n = "dict") : kitB "NoneType" n = some ((· == n) "NoneType") ∧ kitB "bool" n = some ((· == n) "bool") ∧ kitB "int" n = some ((· == n) "int") ∧ kitB "str" n = some ((· == n) "str") ∧ kitB "tuple" n = some ((· == n) "tuple") ∧ kitB "list" n = some ((· == n) "list") ∧ kitB "dict" n = some ((· == n) "dict") := by
  rcases h with h | h | h | h | h <;> subst h <;> decide +kernel
/-! ### a def of the text -/
def g0 (g : G) : G := { g with xi := none }
def spM (g : G) (n : Nat) (F : List SV → Cs → R SV) : Sp := fun vs H Q E => vs.length = n ∧ ∃ rs cs ad, SvsR (g0 g) H ad vs rs ∧ CsR H ad cs ∧ (∀ P q, TbC.tb = some (P, q) → TabC H ad P q) ∧
  match F rs cs with
  | .ok r cs' => ∀ v H' ad', Ex H ad H' ad' → CsR H' ad' cs' → SvR (g0 g) H' ad' v r → Q v H'
  | .ex x cs' => ∀ cls dd H' ad', Ex H ad H' ad' → CsR H' ad' cs' → XcR (g0 g) H' ad' x cls dd → E cls dd H'
  | .bad => False
def dCall (F : List SV → Cs → R SV) (a : D (List SV)) : D SV := fun sl cs => (a sl cs).bind F
theorem m_call {k : Nat} {f : Addr} {fd : FuncData} {ps : List Str} {n : Nat} {F : List SV → Cs → R SV} {x : Str} {p pos : Pos} {e : Expr} {es : List Expr} {d : D (List SV)} (hF : FnOk X.prog X.w X.K X.mg X.base (L2.CX X.prog X.w) k f fd ps (spM g n F)) (hxi : g.xi = none) (hr : Room k X.A) (hg : Gl X x) (hm : X.mg x = some (.ref f)) (hk : PySem.W.keepIn X.K (.ref f) = true)
    (hb : Binds X.K fd ps []) (tk : Takes X W) (ha : MA g W X (e :: es) d) (hn : (e :: es).length = n) (hst : ∀ {sl cs rs cs'}, d sl cs = .ok rs cs' → rs.length = n) (hdb : (x == ("__debug__" : Str)) = false := by decide) (he : starEach (e :: es) X.env = (false, eval e X.env) :: starEach es X.env := by rfl) (hpl : (backTo pos (starEach es X.env)).any (·.1) = false := by rfl) :
    ME g W X (.Call (.Name x p) (e :: es) [] pos) (dCall F d) := by
  have hgg : g0 g = g := by cases g; simp only [g0] at *; rw [← hxi]
  refine PE.cons (pe_callS hF hr hg hm hk hb (fun σ => passAt tk σ) ha hdb he hpl) fun σ H Q hw => ?_
  obtain ⟨sl, cs, ad, S, C, A⟩ := hw
  unfold dCall at A
  refine ⟨sl, cs, ad, S, C, ?_⟩
  cases z : d sl cs with
  | bad => rw [z] at A; exact A
  | ex x1 c1 => rw [z] at A; exact A
  | ok rs c1 =>
    rw [z] at A
    have hl := hst z
    intro vs H1 ad1 e1 C1 s1
    have len : ∀ {rs : List SV} {vs : List V}, SvsR g H1 ad1 vs rs → vs.length = rs.length := by
      intro rs
      induction rs with
      | nil => intro vs h; have h : vs = [] := h; subst h; rfl
      | cons r rs ih => intro vs ⟨v, q, h1, h2, h3⟩; rw [h1, List.length_cons, List.length_cons, ih h3]
    refine ⟨by rw [len s1, hl], rs, c1, ad1, by rw [hgg]; exact s1, C1, fun P q z => e1.tab P q z (S.tb P q z), ?_⟩
    have A1 : Aft g W σ (relE g) H1 ad1 (F rs c1) Q := Aft.later e1 A
    revert A1
    cases F rs c1 with
    | bad => exact id
    | ok r cs' => exact fun A1 v H' ad' e' c' s' => A1 v H' ad' e' c' (by rw [hgg] at s'; exact s')
    | ex x1 cs' => exact fun A1 cls dd H' ad' e' c' s' => A1 cls dd H' ad' e' c' (by rw [hgg] at s'; exact s')
end
end Mi
set_option Elab.async false
set_option linter.all false
set_option autoImplicit false
set_option maxRecDepth 100000
set_option maxHeartbeats 1000000
namespace Mi
open PySem PySem.Spec PyProof.Rows L2
variable [TbC]
/-! ### statements -/
inductive RS where
  | nx (sl : Sl) (cs : Cs)
  | rt (r : SV) (cs : Cs)
  | bk (sl : Sl) (cs : Cs)
  | ct (sl : Sl) (cs : Cs)
  | ex (x : Xc) (sl : Sl) (cs : Cs)
  | bad
abbrev DS := Sl → Cs → RS
def R.bindS {α : Type} (r : R α) (sl : Sl) (k : α → Cs → RS) : RS :=
  match r with
  | .ok a cs => k a cs
  | .ex x cs => .ex x sl cs
  | .bad => .bad
def AftS (g : G) (W : WX) (Z : Ends) (H : Hp) (ad : Ad) : RS → Prop
  | .nx sl cs => ∀ σ' H' ad', Ex H ad H' ad' → StR g H' ad' σ' sl → CsR H' ad' cs → Z.nx σ' H'
  | .bk sl cs => ∀ σ' H' ad', Ex H ad H' ad' → StR g H' ad' σ' sl → CsR H' ad' cs → Z.bk σ' H'
  | .ct sl cs => ∀ σ' H' ad', Ex H ad H' ad' → StR g H' ad' σ' sl → CsR H' ad' cs → Z.ct σ' H'
  | .rt r cs => ∀ v H' ad', Ex H ad H' ad' → CsR H' ad' cs → SvR g H' ad' v r → Z.rt v H'
  | .ex x sl cs => ∀ cls dd σ' H' ad', Ex H ad H' ad' → StR g H' ad' σ' sl → CsR H' ad' cs → XcR g H' ad' x cls dd → W cls dd σ' H'
  | .bad => False
def rdS (g : G) (W : WX) (d : DS) : TS := fun Z σ H => ∃ sl cs ad, StR g H ad σ sl ∧ CsR H ad cs ∧ AftS g W Z H ad (d sl cs)
def MS (g : G) (W : WX) (X : Cx) (st : Stmt) (d : DS) : Prop := PS X st (rdS g W d)
def MSs (g : G) (W : WX) (X : Cx) (st : List Stmt) (d : DS) : Prop := PSs X st (rdS g W d)
theorem PS.cons {X : Cx} {st : Stmt} {t t' : TS} (h : PS X st t) (f : ∀ Z σ H, t' Z σ H → t Z σ H) : PS X st t' := ⟨fun pins s σ H Z I hw => h.run pins s σ H Z I (f Z σ H hw)⟩
theorem PSs.cons {X : Cx} {st : List Stmt} {t t' : TS} (h : PSs X st t) (f : ∀ Z σ H, t' Z σ H → t Z σ H) : PSs X st t' := ⟨fun pins s σ H Z I hw => h.run pins s σ H Z I (f Z σ H hw)⟩
section
variable {X : Cx} {g : G} {W : WX}
theorem AftS.later {Z : Ends} {H H1 : Hp} {ad ad1 : Ad} {r : RS} (e : Ex H ad H1 ad1) (h : AftS g W Z H ad r) : AftS g W Z H1 ad1 r := by
  cases r with
  | bad => exact h
  | nx sl cs => exact fun σ' H' ad' e' s c => h σ' H' ad' (e.trans e') s c
  | bk sl cs => exact fun σ' H' ad' e' s c => h σ' H' ad' (e.trans e') s c
  | ct sl cs => exact fun σ' H' ad' e' s c => h σ' H' ad' (e.trans e') s c
  | rt r cs => exact fun v H' ad' e' c s => h v H' ad' (e.trans e') c s
  | ex x sl cs => exact fun cls dd σ' H' ad' e' s c q => h cls dd σ' H' ad' (e.trans e') s c q
theorem AftS.bind {α β : Type} {rel : Hp → Ad → β → α → Prop} {Z : Ends} {σ : L2.St} {H : Hp} {ad : Ad} {sl : Sl} {r : R α} {k : α → Cs → RS} {Q' : β → Hp → Prop} (S : StR g H ad σ sl) (h : AftS g W Z H ad (r.bindS sl k))
    (f : ∀ b a cs1 H1 ad1, Ex H ad H1 ad1 → StR g H1 ad1 σ sl → CsR H1 ad1 cs1 → rel H1 ad1 b a → AftS g W Z H1 ad1 (k a cs1) → Q' b H1) : Aft g W σ rel H ad r Q' := by
  cases r with
  | bad => exact h
  | ex x cs => exact fun cls dd H' ad' e c q => h cls dd σ H' ad' e (S.mono e) c q
  | ok a cs => exact fun b H1 ad1 e c s => f b a cs H1 ad1 e (S.mono e) c s (AftS.later e h)
/-! blocks -/
def dSkip : DS := fun sl cs => .nx sl cs
def dSeq (a b : DS) : DS := fun sl cs => match a sl cs with
  | .nx sl1 cs1 => b sl1 cs1
  | r => r
theorem ms_nil : MSs g W X [] dSkip := PSs.cons pss_nil fun Z σ H ⟨sl, cs, ad, S, C, A⟩ => A σ H ad Ex.refl S C
theorem ms_cons {st : Stmt} {r : List Stmt} {a b : DS} (h : MS g W X st a) (hr : MSs g W X r b) : MSs g W X (st :: r) (dSeq a b) := by
  refine PSs.cons (pss_cons h hr) fun Z σ H ⟨sl, cs, ad, S, C, A⟩ => ⟨sl, cs, ad, S, C, ?_⟩
  unfold dSeq at A
  revert A
  cases a sl cs with
  | nx sl1 cs1 => exact fun A σ' H' ad' e s c => ⟨sl1, cs1, ad', s, c, AftS.later e A⟩
  | rt r cs => exact id
  | bk sl cs => exact id
  | ct sl cs => exact id
  | ex x sl cs => exact id
  | bad => exact id
theorem ms_one {st : Stmt} {a : DS} (h : MS g W X st a) : MSs g W X [st] a := pss_one h
theorem ms_pass {pos : Pos} : MS g W X (.Pass pos) dSkip := PS.cons ps_pass fun Z σ H ⟨sl, cs, ad, S, C, A⟩ => A σ H ad Ex.refl S C
def dBreak : DS := fun sl cs => .bk sl cs
def dCont : DS := fun sl cs => .ct sl cs
theorem ms_break {pos : Pos} : MS g W X (.Break pos) dBreak := PS.cons ps_break fun Z σ H ⟨sl, cs, ad, S, C, A⟩ => A σ H ad Ex.refl S C
theorem ms_cont {pos : Pos} : MS g W X (.Continue pos) dCont := PS.cons ps_continue fun Z σ H ⟨sl, cs, ad, S, C, A⟩ => A σ H ad Ex.refl S C
theorem ms_doc {x j pos pos'} : MS g W X (.Expr (.Constant (.str x) j pos) pos') dSkip := PS.cons ps_doc fun Z σ H ⟨sl, cs, ad, S, C, A⟩ => A σ H ad Ex.refl S C
def dExpr (d : D SV) : DS := fun sl cs => (d sl cs).bindS sl fun _ c => .nx sl c
theorem ms_expr {e : Expr} {pos : Pos} {d : D SV} (h : ME g W X e d) (hs : swapsWith e none pos.line X.env = pure false := by rfl) : MS g W X (.Expr e pos) (dExpr d) :=
  PS.cons (ps_expr h hs) fun Z σ H ⟨sl, cs, ad, S, C, A⟩ => ⟨sl, cs, ad, S, C, AftS.bind (rel := relE g) S A fun v r c1 H1 ad1 e1 S1 C1 s1 A1 => A1 σ H1 ad1 Ex.refl S1 C1⟩
def dRet (d : D SV) : DS := fun sl cs => (d sl cs).bindS sl fun r c => .rt r c
theorem ms_ret {e : Expr} {pos : Pos} {d : D SV} (h : ME g W X e d) : MS g W X (.Return (some e) pos) (dRet d) :=
  PS.cons (ps_ret h) fun Z σ H ⟨sl, cs, ad, S, C, A⟩ => ⟨sl, cs, ad, S, C, AftS.bind (rel := relE g) S A fun v r c1 H1 ad1 e1 S1 C1 s1 A1 => A1 v H1 ad1 Ex.refl C1 s1⟩
def dRetN : DS := fun _ cs => .rt (.t .none) cs
theorem ms_retN {pos : Pos} : MS g W X (.Return none pos) dRetN := PS.cons ps_retN fun Z σ H ⟨sl, cs, ad, S, C, A⟩ => A _ H ad Ex.refl C rfl
def dIfS (c : D Bool) (a b : DS) : DS := fun sl cs => (c sl cs).bindS sl fun r c1 => if r = true then a sl c1 else b sl c1
theorem ms_if {c : Expr} {a b : List Stmt} {pos : Pos} {dc : D Bool} {da db : DS} (hc : MT g W X c dc) (ha : MSs g W X a da) (hb : MSs g W X b db) : MS g W X (.If c a b pos) (dIfS dc da db) :=
  PS.cons (ps_if hc ha hb) fun Z σ H ⟨sl, cs, ad, S, C, A⟩ => ⟨sl, cs, ad, S, C, AftS.bind (rel := relB) S A fun v r c1 H1 ad1 e1 S1 C1 s1 A1 => by
    obtain rfl : v = r := s1
    cases v with
    | true => exact ⟨sl, c1, ad1, S1, C1, A1⟩
    | false => exact ⟨sl, c1, ad1, S1, C1, A1⟩⟩
/-! ### targets -/
abbrev DG := SV → Sl → Cs → R Sl
abbrev DGs := List SV → Sl → Cs → R Sl
def AftG (g : G) (W : WX) (σ : L2.St) (H : Hp) (ad : Ad) (r : R Sl) (Q : L2.St → Hp → Prop) : Prop :=
  match r with
  | .ok sl cs => ∀ σ' H' ad', Ex H ad H' ad' → StR g H' ad' σ' sl → CsR H' ad' cs → Q σ' H'
  | .ex x cs => ∀ cls dd H' ad', Ex H ad H' ad' → CsR H' ad' cs → XcR g H' ad' x cls dd → W cls dd σ H'
  | .bad => False
def rdG (g : G) (W : WX) (t : DG) : TG := fun v σ H Q => ∃ r sl cs ad, StR g H ad σ sl ∧ CsR H ad cs ∧ SvR g H ad v r ∧ AftG g W σ H ad (t r sl cs) Q
def rdGs (g : G) (W : WX) (t : DGs) : TGs := fun vs σ H Q => ∃ rs sl cs ad, StR g H ad σ sl ∧ CsR H ad cs ∧ SvsR g H ad vs rs ∧ AftG g W σ H ad (t rs sl cs) Q
def MG (g : G) (W : WX) (X : Cx) (e : Expr) (t : DG) : Prop := PG X e (rdG g W t)
def MGs (g : G) (W : WX) (X : Cx) (es : List Expr) (t : DGs) : Prop := PGs X es (rdGs g W t)
theorem PG.cons {e : Expr} {t t' : TG} (h : PG X e t) (f : ∀ v σ H Q, t' v σ H Q → t v σ H Q) : PG X e t' := ⟨fun pins s σ H v u Q I r hw => h.run pins s σ H v u Q I r (f v σ H Q hw)⟩
theorem PGs.cons {es : List Expr} {t t' : TGs} (h : PGs X es t) (f : ∀ v σ H Q, t' v σ H Q → t v σ H Q) : PGs X es t' := ⟨fun pins s σ H v u Q I r hw => h.run pins s σ H v u Q I r (f v σ H Q hw)⟩
def tgName (i : Nat) : DG := fun r sl cs => .ok (sl.set i (some r)) cs
theorem mg_name {i : Nat} {e : Expr} (h : PG X e (gName i)) : MG g W X e (tgName i) := PG.cons h fun v σ H Q ⟨r, sl, cs, ad, S, C, s, A⟩ => A _ H ad Ex.refl (S.set s) C
def tgNil : DGs := fun rs sl cs => match rs with
  | [] => .ok sl cs
  | _ => .bad
/-- names alone store nothing but in slots -/
def tgCons (i : Nat) (u : DGs) : DGs := fun rs sl cs => match rs with
  | r :: q => u q (sl.set i (some r)) cs
  | [] => .bad
theorem mgs_nil : MGs g W X [] tgNil := PGs.cons pgs_nil fun vs σ H Q ⟨rs, sl, cs, ad, S, C, s, A⟩ => by
  cases rs with
  | nil => exact ⟨s, A σ H ad Ex.refl S C⟩
  | cons r q => exact A.elim
/-- a block of names: what it lets out never happens -/
def NoEx (t : DGs) : Prop := ∀ rs sl cs x c, t rs sl cs ≠ .ex x c
theorem noEx_nil : NoEx tgNil := fun rs sl cs x c => by cases rs <;> simp [tgNil]
theorem noEx_cons {i : Nat} {u : DGs} (h : NoEx u) : NoEx (tgCons i u) := fun rs sl cs x c => by
  cases rs with
  | nil => simp [tgCons]
  | cons r q => exact h q _ cs x c
theorem AftG.at {σ σ' : L2.St} {H : Hp} {ad : Ad} {r : R Sl} {Q : L2.St → Hp → Prop} (h : AftG g W σ H ad r Q) (n : ∀ x c, r ≠ .ex x c) : AftG g W σ' H ad r Q := by
  cases r with
  | ok sl cs => exact h
  | ex x cs => exact absurd rfl (n x cs)
  | bad => exact h
theorem mgs_cons {i : Nat} {e : Expr} {es : List Expr} {u : DGs} (h1 : PG X e (gName i)) (h2 : MGs g W X es u) (ne : NoEx u) (hs : (assignEach (e :: es) X.env).map (·.2) = assign e X.env :: (assignEach es X.env).map (·.2) := by rfl) : MGs g W X (e :: es) (tgCons i u) :=
  PGs.cons (pgs_cons h1 h2 hs) fun vs σ H Q ⟨rs, sl, cs, ad, S, C, s, A⟩ => by
    cases rs with
    | nil => exact A.elim
    | cons r q =>
      obtain ⟨v, w, rfl, s1, s2⟩ := s
      exact ⟨v, w, rfl, q, _, cs, ad, S.set s1, C, s2, AftG.at A fun x c => ne q _ cs x c⟩
/-- a nested target -/
def tgIn (t : DG) (u : DGs) : DGs := fun rs sl cs => match rs with
  | r :: q => (t r sl cs).bind fun sl1 cs1 => u q sl1 cs1
  | [] => .bad
def tgTup (n : Nat) (t : DGs) : DG := fun r sl cs => match r with
  | .t (.tuple ts) => if ts.length = n then t (ts.map .t) sl cs else .bad
  | _ => .bad
theorem mg_tup {es : List Expr} {k : Nat} {pos : Pos} {t : DGs} {n : Nat} (hc : X.calm = true) (h : MGs g W X es t) (hn : (assignEach es X.env).length = n := by rfl) (hst : (assignEach es X.env).findIdx? (·.1) = none := by rfl) : MG g W X (.Tuple es k pos) (tgTup n t) :=
  PG.cons (pg_tup hc h hn hst) fun v σ H Q ⟨r, sl, cs, ad, S, C, s, A⟩ => by
    cases r with
    | c i => exact A.elim
    | x x => exact A.elim
    | t u =>
      cases u <;> first | exact A.elim | skip
      rename_i ts
      obtain ⟨a, xs, rfl, h2, h3, h4⟩ := s
      unfold tgTup at A
      simp only at A
      split at A
      · rename_i hl
        exact ⟨a, xs, rfl, SqT.of h2, by rw [h4.len, hl], _, sl, cs, ad, S, C, svs_of h4, A⟩
      · exact A.elim
theorem noEx_in {t : DG} {u : DGs} (ht : ∀ r sl cs x c, t r sl cs ≠ .ex x c) (hu : NoEx u) : NoEx (tgIn t u) := fun rs sl cs x c => by
  cases rs with
  | nil => simp [tgIn]
  | cons r q =>
    unfold tgIn
    simp only
    cases z : t r sl cs with
    | ok sl1 cs1 => exact hu q sl1 cs1 x c
    | ex y d => exact absurd z (ht r sl cs y d)
    | bad => simp [R.bind]
theorem noEx_tup {n : Nat} {t : DGs} (h : NoEx t) : ∀ r sl cs x c, tgTup n t r sl cs ≠ .ex x c := fun r sl cs x c => by
  unfold tgTup
  split
  · split
    · exact h _ sl cs x c
    · simp
  · simp
theorem mgs_in {e : Expr} {es : List Expr} {t : DG} {u : DGs} (h1 : MG g W X e t) (ne1 : ∀ r sl cs x c, t r sl cs ≠ .ex x c) (h2 : MGs g W X es u) (ne : NoEx u) (hs : (assignEach (e :: es) X.env).map (·.2) = assign e X.env :: (assignEach es X.env).map (·.2) := by rfl) : MGs g W X (e :: es) (tgIn t u) :=
  PGs.cons (pgs_cons h1 h2 hs) fun vs σ H Q ⟨rs, sl, cs, ad, S, C, s, A⟩ => by
    cases rs with
    | nil => exact A.elim
    | cons r q =>
      obtain ⟨v, w, rfl, s1, s2⟩ := s
      refine ⟨v, w, rfl, r, sl, cs, ad, S, C, s1, ?_⟩
      unfold tgIn at A
      simp only at A
      cases z : t r sl cs with
      | bad => rw [z] at A; exact A
      | ex y d => exact absurd z (ne1 r sl cs y d)
      | ok sl1 cs1 =>
        rw [z] at A
        intro σ' H' ad' e' S' C'
        refine ⟨q, sl1, cs1, ad', S', C', SvsR.mono e' s2, ?_⟩
        have A' : AftG g W σ H ad (u q sl1 cs1) Q := A
        revert A'
        cases z2 : u q sl1 cs1 with
        | bad => exact id
        | ex y d => exact absurd z2 (ne q sl1 cs1 y d)
        | ok sl2 cs2 => exact fun A' σ2 H2 ad2 e2 S2 C2 => A' σ2 H2 ad2 (e'.trans e2) S2 C2
def dAsg (d : D SV) (t : DG) : DS := fun sl cs => (d sl cs).bindS sl fun r c => (t r sl c).bindS sl fun sl1 c1 => .nx sl1 c1
theorem rd_asg {d : D SV} {t : DG} (Z : Ends) (σ : L2.St) (H : Hp) (hw : rdS g W (dAsg d t) Z σ H) : tAsg (rd g W (relE g) d) (rdG g W t) Z σ H := by
  obtain ⟨sl, cs, ad, S, C, A⟩ := hw
  refine ⟨sl, cs, ad, S, C, AftS.bind (rel := relE g) S A fun v r c1 H1 ad1 e1 S1 C1 s1 A1 => ⟨r, sl, c1, ad1, S1, C1, s1, ?_⟩⟩
  revert A1
  cases t r sl c1 with
  | bad => exact id
  | ok sl1 cs1 => exact id
  | ex x cs1 => exact fun A1 cls dd H' ad' e' c' q => A1 cls dd σ H' ad' e' (S1.mono e') c' q
theorem ms_asg {tg e : Expr} {pos : Pos} {d : D SV} {t : DG} (he : ME g W X e d) (hg : MG g W X tg t) (hs : swapsWithSole [tg] e pos.line X.env = pure false := by rfl) (hw : swappedStores [tg] e X.env = pure none := by rfl)
    (h1 : (assignEach [tg] X.env).map (·.2) = [assign tg X.env] := by rfl) : MS g W X (.Assign [tg] e pos) (dAsg d t) := PS.cons (ps_asg he hg hs hw h1) rd_asg
theorem ms_set {i : Nat} {x : Str} {e : Expr} {pos pos' : Pos} {d : D SV} (hN : X.N.Nodup) (hi : X.N[i]? = some x) (hx : Loc X.env.scope x) (he : ME g W X e d) (hs : swapsWith e (some (.Name x pos')) pos.line X.env = pure false := by rfl)
    (hf : X.fn x = true ∨ X.env.scope.names.lookup x = some .local := by first | exact .inl rfl | exact .inr rfl | assumption) : MS g W X (.Assign [.Name x pos'] e pos) (dAsg d (tgName i)) :=
  PS.cons (ps_set hN hi hx he hs hf) fun Z σ H hw => by
    obtain ⟨sl, cs, ad, S, C, A⟩ := rd_asg Z σ H hw
    exact ⟨sl, cs, ad, S, C, A.imp fun v H1 ⟨r, sl, cs, ad, S, C, s, A⟩ => A _ H1 ad Ex.refl (S.set s) C⟩
/-! ### a cell is written -/
theorem CsR.notTbl {H : Hp} {ad : Ad} {cs : Cs} {j : Nat} {a : Addr} (c : CsR H ad cs) (ha : ad[j]? = some (some a)) : ∀ ps, H a ≠ some (.tbl ps) := by
  intro ps z
  have hl : j < cs.length := by rw [← c.len]; exact (List.getElem?_eq_some_iff.mp ha).1
  have q := c.cell j _ cs[j] ha (by simp [hl])
  cases e : cs[j] with
  | dead => rw [e] at q; exact q
  | lst ts => rw [e] at q; obtain ⟨xs, h1, _⟩ := q; rw [h1] at z; cases z
  | lock ts => rw [e] at q; obtain ⟨xs, h1, _⟩ := q; rw [h1] at z; cases z
  | dct ts => rw [e] at q; obtain ⟨xs, h1, _⟩ := q; rw [h1] at z; cases z
theorem exWrite {H : Hp} {ad : Ad} {j : Nat} {a : Addr} {o : HO} (ha : ad[j]? = some (some a)) (hn : ∀ ps, H a ≠ some (.tbl ps)) (ho : ∀ ps, o ≠ .tbl ps) : Ex H ad (upd H a o) ad := by
  refine ⟨fun b u q n _ => ?_, fun P q _ h => ?_, fun b q => ?_, Nat.le_refl _, fun _ _ q _ => q, fun i b q hl => ?_⟩
  · rw [upd_ne (fun z => n (by rw [z]; exact List.mem_iff_getElem?.mpr ⟨j, ha⟩))]; exact q
  · obtain ⟨ps, h1, h2, h3⟩ := h
    refine ⟨ps, by rw [upd_ne (fun z => hn ps (by rw [← z]; exact h1))]; exact h1, h2, fun pos cv hc => ?_⟩
    obtain ⟨c, e1, e2, e3⟩ := h3 pos cv hc
    exact ⟨c, e1, by rw [upd_ne (fun z => e3 (by rw [z]; exact List.mem_iff_getElem?.mpr ⟨j, ha⟩))]; exact e2, e3⟩
  · by_cases hb : b = a
    · subst hb; exact ⟨o, upd_same, ho⟩
    · obtain ⟨u, q1, q2⟩ := q
      exact ⟨u, by rw [upd_ne hb]; exact q1, q2⟩
  · have := (List.getElem?_eq_some_iff.mp q).1; omega
theorem CsR.write {H : Hp} {ad : Ad} {cs : Cs} {j : Nat} {a : Addr} {o : HO} {k : C} (c : CsR H ad cs) (ha : ad[j]? = some (some a)) (hk : Cl (upd H a o) ad (some a) k) (ho : ∀ ps, o ≠ .tbl ps := by exact fun _ z => by cases z) : Ex H ad (upd H a o) ad ∧ CsR (upd H a o) ad (cs.set j k) := by
  have e : Ex H ad (upd H a o) ad := exWrite ha (c.notTbl ha) ho
  refine ⟨e, by simp [c.len], c.inj, fun i o' k' q1 q2 => ?_⟩
  rw [List.getElem?_set] at q2
  by_cases hj : j = i
  · subst hj
    rw [if_pos rfl] at q2
    rw [ha] at q1
    split at q2
    · cases q1; cases q2; exact hk
    · cases q2
  · rw [if_neg hj] at q2
    refine Cl.later e (fun b z u q => ?_) (c.cell i o' k' q1 q2)
    subst z
    rw [upd_ne (fun z => hj (c.inj j i a ha (by rw [← z]; exact q1)))]
    exact q
theorem CsR.at_lst {H : Hp} {ad : Ad} {cs : Cs} {j : Nat} {ts : List T} {v : V} (c : CsR H ad cs) (s : SvR g H ad v (.c j)) (e : cs[j]? = some (.lst ts)) : ∃ a xs, ad[j]? = some (some a) ∧ v = .ref a ∧ H a = some (.lst xs) ∧ Rps H ad xs ts := by
  obtain ⟨h1, h2⟩ := s
  have z := c.cell j ad[j] (.lst ts) (by simp [h1]) e
  cases o : ad[j] with
  | none => rw [o] at z; exact z.elim
  | some a =>
    rw [o] at z
    obtain ⟨xs, z1, z2⟩ := z
    have ha : ad[j]? = some (some a) := by rw [List.getElem?_eq_getElem h1, o]
    exact ⟨a, xs, ha, h2 a ha, z1, z2⟩
/-- xs.append(e) -/
def appC (o r : SV) (cs : Cs) : R SV := match o with
  | .c j => match take1 r cs with
    | some (t, c1) => (match c1[j]? with
      | some (.lst ts) => if ts.length < sizeLine then .ok (.t .none) (c1.set j (.lst (ts ++ [t]))) else .bad
      | _ => .bad)
    | none => .bad
  | _ => .bad
def isLive (o : SV) (cs : Cs) : Bool := match o with
  | .c j => (match cs[j]? with | some (.lst _) => true | _ => false)
  | _ => false
def dApp (o e : D SV) : D SV := fun sl cs => (o sl cs).bind fun ro c => if isLive ro c = true then (e sl c).bind fun r c1 => appC ro r c1 else .bad
theorem m_app {o e : Expr} {apos cpos : Pos} {d k : D SV} (ho : ME g W X o d) (he : ME g W X e k) (hbase : attributeBase o "append" X.env (eval o X.env) = eval o X.env := by rfl)
    (hfew : ((backTo cpos (starEach (e :: []) X.env)).all (fun x => !x.1) && (backToKw cpos (keywordEach [] X.env)).all (fun x => x.1.isSome)
      && decide ((e :: []).length + ([] : List Keyword).length + (if ([] : List Keyword).isEmpty then 0 else 1) < 30)) = true := by rfl)
    (hline : (apos.endLine == cpos.line) = true := by rfl) (hs : starEach [e] X.env = (false, eval e X.env) :: starEach [] X.env := by rfl) :
    ME g W X (.Call (.Attribute o "append" apos) [e] [] cpos) (dApp d k) := by
  refine PE.cons (pe_bm PySem.F.plainAttrs_list PySem.F.slot_list_append PySem.F.type_list_append mt_append ho (pa_cons he pa_nil hs) hbase hfew hline hs) fun σ H Q hw => ?_
  obtain ⟨sl, cs, ad, S, C, A⟩ := hw
  refine ⟨sl, cs, ad, S, C, Aft.bind (rel := relE g) A fun x ro c1 H1 ad1 e1 C1 s1 A1 => ?_⟩
  split at A1
  · rename_i lv
    cases ro <;> first | (simp [isLive] at lv; done) | skip
    rename_i j
    have lv' : ∃ ts, c1[j]? = some (.lst ts) := by
      unfold isLive at lv
      simp only at lv
      split at lv
      · rename_i ts q; exact ⟨ts, q⟩
      · cases lv
    obtain ⟨ts0, q0⟩ := lv'
    obtain ⟨a0, xs0, ha0, rfl, hH0, _⟩ := C1.at_lst s1 q0
    refine ⟨.inl ⟨rfl, _, SqL.of hH0⟩, sl, c1, ad1, S.mono e1, C1, Aft.bind (rel := relE g) A1 fun y r c2 H2 ad2 e2 C2 s2 A2 => ?_⟩
    unfold appC at A2
    simp only at A2
    cases z : take1 r c2 with
    | none => rw [z] at A2; exact A2.elim
    | some p =>
      obtain ⟨t, c3⟩ := p
      rw [z] at A2
      simp only at A2
      obtain ⟨ad3, e3, C3, r3⟩ := take1_ok C2 s2 z
      split at A2
      · rename_i ts q
        split at A2
        · rename_i hl
          obtain ⟨a, xs, ha, e4, hH, rr⟩ := C3.at_lst ((s1.mono e2).mono e3) q
          cases e4
          refine ⟨a0, xs, y, rfl, rfl, hH, by rw [rr.len]; exact hl, ?_⟩
          obtain ⟨e5, C5⟩ := C3.write (o := .lst (xs ++ [y])) (k := .lst (ts ++ [t])) ha ⟨_, upd_same, Rps.mono (exWrite ha (C3.notTbl ha) (fun _ z => by cases z)) _ _ (Rps.append rr (Rps.one r3))⟩
          exact A2 .non _ ad3 (e3.trans e5) C5 rfl
        · exact A2.elim
      · exact A2.elim
  · exact A1.elim
end
end Mi
set_option Elab.async false
set_option linter.all false
set_option autoImplicit false
set_option maxRecDepth 100000
set_option maxHeartbeats 1000000
namespace Mi
open PySem PySem.Spec PyProof.Rows L2
variable [TbC]
section
variable {X : Cx} {g : G} {W : WX}
/-! ### xs[i] = v -/
def setC (o i r : SV) (cs : Cs) : R Unit := match o with
  | .c j => match take1 r cs with
    | some (t, c1) => (match c1[j]?, res i c1 with
      | some (.lst ts), some (.int k) => (match ixN ts.length k with
        | some n => .ok () (c1.set j (.lst (ts.set n t)))
        | none => .bad)
      | _, _ => .bad)
    | none => .bad
  | _ => .bad
def tgSub (o i : D SV) : DG := fun r sl cs => (o sl cs).bind fun ro c => (i sl c).bind fun ri c1 => (setC ro ri r c1).bind fun _ c2 => .ok sl c2
theorem AftG.bind {α β : Type} {rel : Hp → Ad → β → α → Prop} {σ : L2.St} {H : Hp} {ad : Ad} {r : R α} {k : α → Cs → R Sl} {Q : L2.St → Hp → Prop} {Q' : β → Hp → Prop} (h : AftG g W σ H ad (r.bind k) Q)
    (f : ∀ b a cs1 H1 ad1, Ex H ad H1 ad1 → CsR H1 ad1 cs1 → rel H1 ad1 b a → AftG g W σ H1 ad1 (k a cs1) Q → Q' b H1) : Aft g W σ rel H ad r Q' := by
  cases r with
  | bad => exact h
  | ex x cs => exact h
  | ok a cs =>
    intro b H1 ad1 e c s
    refine f b a cs H1 ad1 e c s ?_
    have h' : AftG g W σ H ad (k a cs) Q := h
    revert h'
    cases k a cs with
    | bad => exact id
    | ex x cs2 => exact fun h cls dd H' ad' e' c' x' => h cls dd H' ad' (e.trans e') c' x'
    | ok a2 cs2 => exact fun h σ' H' ad' e' s' c' => h σ' H' ad' (e.trans e') s' c'
theorem mg_sub {o i : Expr} {pos : Pos} {d k : D SV} (ho : ME g W X o d) (hi : ME g W X i k)
    (ha : ∀ v, assign (.Subscript o i pos) X.env v = (do
      let ov ← holding [v] (eval o X.env)
      let iv ← holding [v, ov] (eval i X.env)
      standAt pos
      holding [v, ov, iv] (setItem ov iv v)
      release [v, ov, iv] []) := by intro _; rfl) : MG g W X (.Subscript o i pos) (tgSub d k) := by
  refine PG.cons (pg_sub ho hi set_list ha) fun v σ H Q ⟨r, sl, cs, ad, S, C, s, A⟩ => ?_
  refine ⟨sl, cs, ad, S, C, AftG.bind (rel := relE g) A fun x ro c1 H1 ad1 e1 C1 s1 A1 => ?_⟩
  refine ⟨sl, c1, ad1, S.mono e1, C1, AftG.bind (rel := relE g) A1 fun y ri c2 H2 ad2 e2 C2 s2 A2 => ?_⟩
  have sr := (s.mono e1).mono e2
  unfold setC at A2
  cases ro <;> first | exact A2.elim | skip
  rename_i j
  simp only at A2
  cases z : take1 r c2 with
  | none => rw [z] at A2; exact A2.elim
  | some p =>
    obtain ⟨t, c3⟩ := p
    rw [z] at A2
    simp only at A2
    obtain ⟨ad3, e3, C3, r3⟩ := take1_ok C2 sr z
    split at A2
    · rename_i ts kk q1 q2
      have pk := res_pk C3 (s2.mono e3) q2
      split at A2
      · rename_i n q3
        obtain ⟨a, xs, hja, rfl, hH, rr⟩ := C3.at_lst ((s1.mono e2).mono e3) q1
        refine ⟨a, xs, kk, n, rfl, pk, hH, by rw [rr.len]; exact q3, ?_⟩
        obtain ⟨e5, C5⟩ := C3.write (o := .lst (xs.set n v)) (k := .lst (ts.set n t)) hja ⟨_, upd_same, Rps.mono (exWrite hja (C3.notTbl hja) (fun _ z => by cases z)) _ _ (Rps.set r3 n rr)⟩
        exact A2 σ _ ad3 (e3.trans e5) ((S.mono (e1.trans e2)).mono (e3.trans e5)) C5
      · exact A2.elim
    · exact A2.elim
/-! ### what is gone through -/
def LockOk (lk : Option Nat) (ts : List T) (cs : Cs) : Prop := match lk with
  | none => True
  | some i => cs[i]? = some (.lock ts)
structure ItOk (J : It) (H0 : Hp) (ad0 : Ad) (p : List T × Option Nat) : Prop where
  go : ∀ (n : Nat) (H : Hp) (ad : Ad) (cs : Cs) (t : T), Ex H0 ad0 H ad → CsR H ad cs → LockOk p.2 p.1 cs → p.1[n]? = some t → J.go n H ∧ ∀ x H', J.yld n H x H' → Same H H' ∧ Rp H' ad x t
  stop : ∀ (n : Nat) (H : Hp) (ad : Ad) (cs : Cs), Ex H0 ad0 H ad → CsR H ad cs → LockOk p.2 p.1 cs → p.1.length = n → J.stop n H
abbrev DI := D (List T × Option Nat)
abbrev relI : Hp → Ad → It → List T × Option Nat → Prop := fun H ad J p => ItOk J H ad p
def MI (g : G) (W : WX) (X : Cx) (tg iter : Expr) (d : DI) : Prop := PI X tg iter (rd g W relI d)
theorem PI.cons {tg iter : Expr} {t t' : TI} (h : PI X tg iter t) (f : ∀ σ H R, t' σ H R → t σ H R) : PI X tg iter t' := ⟨fun pins s σ H R I hw => h.run pins s σ H R I (f σ H R hw)⟩
theorem ItOk.later {J : It} {H H1 : Hp} {ad ad1 : Ad} {p : List T × Option Nat} (h : ItOk J H ad p) (e : Ex H ad H1 ad1) : ItOk J H1 ad1 p :=
  ⟨fun n H' ad' cs t e' => h.go n H' ad' cs t (e.trans e'), fun n H' ad' cs e' => h.stop n H' ad' cs (e.trans e')⟩
/-- a list or a tuple -/
def iSeq (K : PySem.W.Frag) (tl : TE) : TI := fun σ H R => tl σ H fun x H1 => ∃ a, x = .ref a ∧ (((∃ xs, SqL K H1 a xs) ∧ R (Itl K a) H1) ∨ ((∃ xs, SqT K H1 a xs) ∧ R (Itt K a) H1))
theorem pi_seq {tg l : Expr} {tl : TE} (hl : PE X l tl) : PI X tg l (iSeq X.K tl) := by
  refine ⟨fun pins s σ H R I h => ?_⟩
  refine thn (hl.run pins s σ H _ I h) fun v s1 ⟨x, H1, I1, r1, a, e, q1⟩ => ?_
  subst e
  cases r1
  have fp : ∀ b, b ∈ [s1.heap.objs.size] → FpOk X pins H1 b := fun b hb => by
    obtain rfl : b = s1.heap.objs.size := by simpa using hb
    exact I1.fpOk (Nat.le_refl _) (I1.hok.fresh (Nat.le_refl _))
  rcases q1 with ⟨⟨xs, hq⟩, q⟩ | ⟨⟨xs, hq⟩, q⟩
  · obtain ⟨its, rv, p, hz⟩ := I1.list hq
    exact wpAny_pyIter_list p.isList ⟨_, _, _, _, H1, rfl, I1.kept (t' := s1.toks) fun b o e => Heap.get?_push_of_some _ e, turn_list a _, ⟨_, Heap.get?_push_size _ rfl, rfl, rfl⟩, fp, q⟩
  · obtain ⟨its, rv, p, hz⟩ := I1.tuple hq
    exact wpAny_pyIter_tuple (show s1.heap.IsTuple a its.toArray from p) ⟨_, _, _, _, H1, rfl, I1.kept (t' := s1.toks) fun b o e => Heap.get?_push_of_some _ e, turn_tuple a _, ⟨_, Heap.get?_push_size _ rfl, rfl, rfl⟩, fp, q⟩
/-- a list, a tuple or a text -/
def iSeq3 (K : PySem.W.Frag) (tl : TE) : TI := fun σ H R => tl σ H fun x H1 => (∃ z, x = .str z ∧ R (Its z) H1) ∨ iSeq K (fun _ _ k => k x H1) σ H1 R
theorem pi_seq3 {tg l : Expr} {tl : TE} (hl : PE X l tl) : PI X tg l (iSeq3 X.K tl) := ⟨fun pins s σ H R I h =>
  thn (hl.run pins s σ H _ I h) fun v s1 ⟨x, H1, I1, r1, q⟩ => by
    rcases q with ⟨z, e, q⟩ | ⟨a, e, q⟩
    · subst e
      obtain ⟨t, rfl⟩ := r1
      have made := fun ty hty => pi_one (X := X) (pins := pins) (σ := σ) (tg := tg) (tk := s1.toks) I1 { cls := .type ty, data := .fields #[.str z t, .int 0 0] } (turn_str s1.heap.objs.size z t ty hty) ⟨_, Heap.get?_push_size _ rfl, rfl, rfl⟩ q
      cases ha : z.cps.all (· < 128) with
      | false => exact wpAny_pyIter_wide ha (made _ (.inr rfl))
      | true => exact wpAny_pyIter_ascii ha (made _ (.inl rfl))
    · subst e
      cases r1
      have new : ∀ b, b ∈ [s1.heap.objs.size] → FpOk X pins H1 b := fun b hb => by
        obtain rfl : b = s1.heap.objs.size := by simpa using hb
        exact I1.fpOk (Nat.le_refl _) (I1.hok.fresh (Nat.le_refl _))
      rcases q with ⟨⟨xs, hq⟩, q⟩ | ⟨⟨xs, hq⟩, q⟩
      · obtain ⟨its, rv, p, hz⟩ := I1.list hq
        exact wpAny_pyIter_list p.isList ⟨_, _, _, _, H1, rfl, I1.kept (t' := s1.toks) fun b o e => Heap.get?_push_of_some _ e, turn_list a _, ⟨_, Heap.get?_push_size _ rfl, rfl, rfl⟩, new, q⟩
      · obtain ⟨its, rv, p, hz⟩ := I1.tuple hq
        exact wpAny_pyIter_tuple (show s1.heap.IsTuple a its.toArray from p) ⟨_, _, _, _, H1, rfl, I1.kept (t' := s1.toks) fun b o e => Heap.get?_push_of_some _ e, turn_tuple a _, ⟨_, Heap.get?_push_size _ rfl, rfl, rfl⟩, new, q⟩⟩
def signT (z : Str) : List T := z.cps.toList.map fun c => .str ⟨#[c]⟩
theorem its_ok {z : Str} {H : Hp} {ad : Ad} : ItOk (Its z) H ad (signT z, none) := by
  refine ⟨fun n H' ad' cs t e c l q => ?_, fun n H' ad' cs e c l q => ?_⟩
  · have q : (z.cps.toList.map fun c => PyData.str ⟨#[c]⟩)[n]? = some t := q
    rw [List.getElem?_map] at q
    cases k : z.cps.toList[n]? with
    | none => rw [k] at q; cases q
    | some d =>
      rw [k] at q
      cases q
      have k2 : z.cps[n]? = some d := by simpa using k
      have lt : n < z.cps.size := (Array.getElem?_eq_some_iff.mp k2).1
      refine ⟨lt, fun x H2 ⟨e1, d2, e2, e3⟩ => ?_⟩
      subst e1
      rw [k2] at e2
      cases e2
      subst e3
      exact ⟨same_refl, rfl⟩
  · have q : (z.cps.toList.map fun c => PyData.str ⟨#[c]⟩).length = n := q
    rw [List.length_map, Array.length_toList] at q
    exact Nat.le_of_eq q
def dIter (a : D SV) : DI := fun sl cs => (a sl cs).bind fun r c => match r with
  | .t (.str z) => .ok (signT z, none) c
  | .t t => (match seqT t with | some ts => .ok (ts, none) c | none => .bad)
  | .c i => (match c[i]? with | some (.lst ts) => .ok (ts, some i) (c.set i (.lock ts)) | _ => .bad)
  | .x _ => .bad
theorem itl_ok {K : PySem.W.Frag} {H0 : Hp} {ad0 : Ad} {a : Addr} {ts : List T} {lk : Option Nat} (h : ∀ H ad cs, Ex H0 ad0 H ad → CsR H ad cs → LockOk lk ts cs → ∃ xs, SqL K H a xs ∧ Rps H ad xs ts) : ItOk (Itl K a) H0 ad0 (ts, lk) := by
  refine ⟨fun n H ad cs t e c l q => ?_, fun n H ad cs e c l q => ?_⟩
  · obtain ⟨xs, h1, h2⟩ := h H ad cs e c l
    obtain ⟨x, q1, q2⟩ := h2.get q
    refine ⟨⟨xs, x, h1, q1⟩, fun y H' ⟨z1, z2⟩ => ?_⟩
    subst z1
    have := z2 xs h1
    rw [q1] at this
    cases this
    exact ⟨same_refl, q2⟩
  · obtain ⟨xs, h1, h2⟩ := h H ad cs e c l
    exact ⟨xs, h1, by rw [h2.len]; exact Nat.le_of_eq q⟩
theorem itt_ok {K : PySem.W.Frag} {H0 : Hp} {ad0 : Ad} {a : Addr} {ts : List T} {lk : Option Nat} (h : ∀ H ad cs, Ex H0 ad0 H ad → CsR H ad cs → LockOk lk ts cs → ∃ xs, SqT K H a xs ∧ Rps H ad xs ts) : ItOk (Itt K a) H0 ad0 (ts, lk) := by
  refine ⟨fun n H ad cs t e c l q => ?_, fun n H ad cs e c l q => ?_⟩
  · obtain ⟨xs, h1, h2⟩ := h H ad cs e c l
    obtain ⟨x, q1, q2⟩ := h2.get q
    refine ⟨⟨xs, x, h1, q1⟩, fun y H' ⟨z1, z2⟩ => ?_⟩
    subst z1
    have := z2 xs h1
    rw [q1] at this
    cases this
    exact ⟨same_refl, q2⟩
  · obtain ⟨xs, h1, h2⟩ := h H ad cs e c l
    exact ⟨xs, h1, by rw [h2.len]; exact Nat.le_of_eq q⟩
theorem CsR.at_lock {H : Hp} {ad : Ad} {cs : Cs} {j : Nat} {ts : List T} {v : V} (c : CsR H ad cs) (s : SvR g H ad v (.c j)) (e : cs[j]? = some (.lock ts)) : ∃ a xs, ad[j]? = some (some a) ∧ v = .ref a ∧ H a = some (.lst xs) ∧ Rps H ad xs ts := by
  obtain ⟨h1, h2⟩ := s
  have z := c.cell j ad[j] (.lock ts) (by simp [h1]) e
  cases o : ad[j] with
  | none => rw [o] at z; exact z.elim
  | some a =>
    rw [o] at z
    obtain ⟨xs, z1, z2⟩ := z
    have ha : ad[j]? = some (some a) := by rw [List.getElem?_eq_getElem h1, o]
    exact ⟨a, xs, ha, h2 a ha, z1, z2⟩
theorem cs_swap {H : Hp} {ad : Ad} {cs : Cs} {j : Nat} {k : C} (c : CsR H ad cs) (h : ∀ o, ad[j]? = some o → Cl H ad o k) : CsR H ad (cs.set j k) := by
  refine ⟨by simp [c.len], c.inj, fun i o' k' q1 q2 => ?_⟩
  rw [List.getElem?_set] at q2
  by_cases hj : j = i
  · subst hj
    rw [if_pos rfl] at q2
    split at q2
    · cases q2; exact h o' q1
    · cases q2
  · rw [if_neg hj] at q2
    exact c.cell i o' k' q1 q2
theorem CsR.toLock {H : Hp} {ad : Ad} {cs : Cs} {j : Nat} {ts : List T} (c : CsR H ad cs) (e : cs[j]? = some (.lst ts)) : CsR H ad (cs.set j (.lock ts)) := cs_swap c fun o q => by
  have z := c.cell j o _ q e
  cases o with
  | none => exact z
  | some a => exact z
theorem CsR.unlock {H : Hp} {ad : Ad} {cs : Cs} {j : Nat} {ts : List T} (c : CsR H ad cs) (e : cs[j]? = some (.lock ts)) : CsR H ad (cs.set j (.lst ts)) := cs_swap c fun o q => by
  have z := c.cell j o _ q e
  cases o with
  | none => exact z
  | some a => exact z
theorem m_iter {tg e : Expr} {d : D SV} (h : ME g W X e d) : MI g W X tg e (dIter d) := by
  refine PI.cons (pi_seq3 h) fun σ H R hw => ?_
  obtain ⟨sl, cs, ad, S, C, A⟩ := hw
  refine ⟨sl, cs, ad, S, C, Aft.bind (rel := relE g) A fun x r c1 H1 ad1 e1 C1 s1 A1 => ?_⟩
  cases r with
  | x x => exact A1.elim
  | t t =>
    cases t <;> first | exact A1.elim | skip
    · obtain rfl : x = .str _ := s1
      exact .inl ⟨_, rfl, A1 _ H1 ad1 Ex.refl C1 its_ok⟩
    · obtain ⟨a, xs, rfl, h2, h3, h4⟩ := s1
      exact .inr ⟨a, rfl, .inl ⟨⟨xs, SqL.of h2⟩, A1 _ H1 ad1 Ex.refl C1 (itl_ok fun H ad cs e c l => ⟨xs, SqL.of (e.keep a _ h2 h3 (fun _ z => by cases z)), Rps.mono e _ _ h4⟩)⟩⟩
    · obtain ⟨a, xs, rfl, h2, h3, h4⟩ := s1
      exact .inr ⟨a, rfl, .inr ⟨⟨xs, SqT.of h2⟩, A1 _ H1 ad1 Ex.refl C1 (itt_ok fun H ad cs e c l => ⟨xs, SqT.of (e.keep a _ h2 h3 (fun _ z => by cases z)), Rps.mono e _ _ h4⟩)⟩⟩
  | c i =>
    simp only at A1
    split at A1
    · rename_i ts q
      obtain ⟨a, xs, hja, rfl, hH, rr⟩ := C1.at_lst s1 q
      refine .inr ⟨a, rfl, .inl ⟨⟨xs, SqL.of hH⟩, A1 _ H1 ad1 Ex.refl (C1.toLock q) (itl_ok fun H ad cs e c l => ?_)⟩⟩
      obtain ⟨a', xs', h1, h2, h3, h4⟩ := CsR.at_lock (g := g) c (SvR.mono e s1) l
      cases h2
      exact ⟨xs', SqL.of h3, h4⟩
    · exact A1.elim
/-! range -/
def rngT (lo : Int) (n : Nat) : List T := (List.range n).map fun i => .int (lo + (i : Nat))
theorem rngT_get {lo : Int} {n i : Nat} {t : T} (h : (rngT lo n)[i]? = some t) : i < n ∧ t = .int (lo + (i : Nat)) := by
  unfold rngT at h
  rw [List.getElem?_map] at h
  cases z : (List.range n)[i]? with
  | none => rw [z] at h; cases h
  | some j =>
    rw [z] at h
    cases h
    obtain ⟨h1, h2⟩ := List.getElem?_eq_some_iff.mp z
    rw [List.length_range] at h1
    rw [List.getElem_range] at h2
    subst h2
    exact ⟨h1, rfl⟩
theorem itr_ok {lo : Int} {n : Nat} {H : Hp} {ad : Ad} : ItOk (Itr lo n) H ad (rngT lo n, none) := by
  refine ⟨fun i H ad cs t e c l q => ?_, fun i H ad cs e c l q => ?_⟩
  · obtain ⟨h1, h2⟩ := rngT_get q
    subst h2
    exact ⟨h1, fun x H' ⟨z1, z2⟩ => by subst z1; subst z2; exact ⟨same_refl, rfl⟩⟩
  · show n ≤ i
    have h1 : (rngT lo n).length = n := by simp [rngT]
    have h2 : (rngT lo n).length = i := q
    omega
def dRng1 (a : D SV) : DI := fun sl cs => (a sl cs).bind fun r c => match res r c with
  | some (.int j) => if -(2 ^ 62) ≤ j ∧ j < 2 ^ 62 then .ok (rngT 0 j.toNat, none) c else .bad
  | _ => .bad
def dRng2 (a b : D SV) : DI := fun sl cs => (a sl cs).bind fun r c => (b sl c).bind fun r2 c2 => match res r c2, res r2 c2 with
  | some (.int i), some (.int j) => if -(2 ^ 62) ≤ i ∧ i < 2 ^ 62 ∧ -(2 ^ 62) ≤ j ∧ j < 2 ^ 62 then .ok (rngT i (j - i).toNat, none) c2 else .bad
  | _, _ => .bad
theorem m_rng1 {tg a : Expr} {p pos : Pos} {d : D SV} (hg : Gl X "range") (hm : X.mg "range" = none) (h : ME g W X a d) (hs : starEach [a] X.env = [(false, eval a X.env)] := by rfl) : MI g W X tg (.Call (.Name "range" p) [a] [] pos) (dRng1 d) := by
  refine PI.cons (pi_range1 hg hm (pa_cons h pa_nil hs) hs) fun σ H R hw => ?_
  obtain ⟨sl, cs, ad, S, C, A⟩ := hw
  refine ⟨sl, cs, ad, S, C, Aft.bind (rel := relE g) A fun x r c1 H1 ad1 e1 C1 s1 A1 => ?_⟩
  split at A1
  · rename_i j q
    have p := res_pk C1 s1 q
    obtain rfl : x = .int j := p
    split at A1
    · rename_i hl
      exact ⟨j, rfl, hl.1, hl.2, A1 _ H1 ad1 Ex.refl C1 itr_ok⟩
    · exact A1.elim
  · exact A1.elim
theorem m_rng2 {tg a b : Expr} {p pos : Pos} {d k : D SV} (hg : Gl X "range") (hm : X.mg "range" = none) (h : ME g W X a d) (h2 : ME g W X b k) (hs : starEach [a, b] X.env = [(false, eval a X.env), (false, eval b X.env)] := by rfl) (hs2 : starEach [b] X.env = [(false, eval b X.env)] := by rfl) :
    MI g W X tg (.Call (.Name "range" p) [a, b] [] pos) (dRng2 d k) := by
  refine PI.cons (pi_range2 hg hm (pa_cons h (pa_cons h2 pa_nil hs2) (by rw [hs, hs2])) hs hs2) fun σ H R hw => ?_
  obtain ⟨sl, cs, ad, S, C, A⟩ := hw
  refine ⟨sl, cs, ad, S, C, Aft.bind (rel := relE g) A fun x r c1 H1 ad1 e1 C1 s1 A1 => ?_⟩
  refine ⟨sl, c1, ad1, S.mono e1, C1, Aft.bind (rel := relE g) A1 fun y r2 c2 H2 ad2 e2 C2 s2 A2 => ?_⟩
  split at A2
  · rename_i i j q1 q2
    obtain rfl : x = .int i := res_pk C2 (s1.mono e2) q1
    obtain rfl : y = .int j := res_pk C2 s2 q2
    split at A2
    · rename_i hl
      exact ⟨i, j, rfl, hl, A2 _ H2 ad2 Ex.refl C2 itr_ok⟩
    · exact A2.elim
  · exact A2.elim
/-! ### for -/
open Classical in
noncomputable def unlk (lk : Option Nat) (ts : List T) (f : Cs → RS) (cs : Cs) : RS := if LockOk lk ts cs then (match lk with | none => f cs | some i => f (cs.set i (.lst ts))) else .bad
open Classical in
/-- the loop; all its ends give the lock up -/
noncomputable def loopF (t : DG) (body : DS) (lk : Option Nat) (all : List T) : List T → Sl → Cs → RS
  | [], sl, cs => unlk lk all (fun c => .nx sl c) cs
  | x :: xs, sl, cs => if LockOk lk all cs then (match t (.t x) sl cs with
      | .ok sl1 cs1 => (match body sl1 cs1 with
        | .nx sl2 cs2 => loopF t body lk all xs sl2 cs2
        | .ct sl2 cs2 => loopF t body lk all xs sl2 cs2
        | .bk sl2 cs2 => unlk lk all (fun c => .nx sl2 c) cs2
        | .rt r cs2 => unlk lk all (fun c => .rt r c) cs2
        | .ex x sl2 cs2 => unlk lk all (fun c => .ex x sl2 c) cs2
        | .bad => .bad)
      | .ex y cs1 => unlk lk all (fun c => .ex y sl c) cs1
      | .bad => .bad) else .bad
noncomputable def dFor (it : DI) (t : DG) (body : DS) : DS := fun sl cs => (it sl cs).bindS sl fun p c => loopF t body p.2 p.1 p.1 sl c
theorem unlk_ok {lk : Option Nat} {ts : List T} {f : Cs → RS} {cs : Cs} {Z : Ends} {H : Hp} {ad : Ad} (h : AftS g W Z H ad (unlk lk ts f cs)) : ∃ cs', AftS g W Z H ad (f cs') ∧ ∀ H' ad', CsR H' ad' cs → CsR H' ad' cs' := by
  unfold unlk at h
  split at h
  · rename_i l
    cases lk with
    | none => exact ⟨cs, h, fun _ _ c => c⟩
    | some i => exact ⟨_, h, fun _ _ c => c.unlock l⟩
  · exact h.elim
theorem ms_for {tg iter : Expr} {body : List Stmt} {pos : Pos} {d : DI} {t : DG} {b : DS} (hp : PassesOwn (model X.prog X.w) X.A X.env X.xe) (hc : X.calm = true) (hi : MI g W X tg iter d) (hg : MG g W X tg t) (hb : MSs g W X body b)
    (hs : ∀ x, foldedSetIterable iter X.env x = pure x := by intro _; rfl) : MS g W X (.For tg iter body [] pos) (dFor d t b) := by
  refine PS.cons (ps_for hp hc hi hg hb hs) fun Z σ H ⟨sl, cs, ad, S, C, A⟩ => ⟨sl, cs, ad, S, C, AftS.bind (rel := relI) S A fun J p c1 H1 ad1 e1 S1 C1 s1 A1 => ?_⟩
  obtain ⟨ts, lk⟩ := p
  refine ⟨fun i m σ' H' => ∃ sl' cs' ad', m = ts.length - i ∧ i ≤ ts.length ∧ Ex H1 ad1 H' ad' ∧ StR g H' ad' σ' sl' ∧ CsR H' ad' cs' ∧ AftS g W Z H' ad' (loopF t b lk ts (ts.drop i) sl' cs'),
    ⟨ts.length, sl, c1, ad1, by simp, Nat.zero_le _, Ex.refl, S1, C1, by simpa using A1⟩, ?_⟩
  rintro i m σ' H' ⟨sl', cs', ad', rfl, hi, e', S', C', A'⟩
  by_cases hlt : i < ts.length
  · right
    rw [List.drop_eq_getElem_cons hlt] at A'
    unfold loopF at A'
    split at A'
    · rename_i l
      have hx : ts[i]? = some ts[i] := by simp [hlt]
      obtain ⟨go, yld⟩ := s1.go i H' ad' cs' _ e' C' l hx
      refine ⟨go, fun σ2 H2 => ∃ sl2 cs2 ad2, Ex H1 ad1 H2 ad2 ∧ StR g H2 ad2 σ2 sl2 ∧ CsR H2 ad2 cs2 ∧ AftS g W Z H2 ad2 (loopF t b lk ts (ts.drop (i + 1)) sl2 cs2), fun σ2 H2 ⟨sl2, cs2, ad2, q1, q2, q3, q4⟩ => ⟨ts.length - (i + 1), by omega, sl2, cs2, ad2, rfl, hlt, q1, q2, q3, q4⟩, fun x H2 y => ?_⟩
      obtain ⟨sm, rp⟩ := yld x H2 y
      have e2 : Ex H' ad' H2 ad' := Ex.same sm
      refine ⟨.t ts[i], sl', cs', ad', S'.mono e2, C'.same sm, rp, ?_⟩
      cases z : t (.t ts[i]) sl' cs' with
      | bad => rw [z] at A'; exact A'.elim
      | ex y1 cs3 =>
        rw [z] at A'
        obtain ⟨cs4, A4, k4⟩ := unlk_ok A'
        exact fun cls dd H3 ad3 e3 c3 q3 => A4 cls dd σ' H3 ad3 (e2.trans e3) ((S'.mono e2).mono e3) (k4 _ _ c3) q3
      | ok sl3 cs3 =>
        rw [z] at A'
        intro σ3 H3 ad3 e3 S3 C3
        refine ⟨sl3, cs3, ad3, S3, C3, ?_⟩
        simp only at A'
        have e13 : Ex H1 ad1 H3 ad3 := (e'.trans e2).trans e3
        have eA : Ex H' ad' H3 ad3 := e2.trans e3
        cases z2 : b sl3 cs3 with
        | bad => rw [z2] at A'; exact A'.elim
        | nx sl4 cs4 =>
          rw [z2] at A'
          exact fun σ4 H4 ad4 e4 S4 C4 => ⟨sl4, cs4, ad4, e13.trans e4, S4, C4, AftS.later (eA.trans e4) A'⟩
        | ct sl4 cs4 =>
          rw [z2] at A'
          exact fun σ4 H4 ad4 e4 S4 C4 => ⟨sl4, cs4, ad4, e13.trans e4, S4, C4, AftS.later (eA.trans e4) A'⟩
        | bk sl4 cs4 =>
          rw [z2] at A'
          obtain ⟨cs5, A5, k5⟩ := unlk_ok A'
          exact fun σ4 H4 ad4 e4 S4 C4 => A5 σ4 H4 ad4 (eA.trans e4) S4 (k5 _ _ C4)
        | rt r cs4 =>
          rw [z2] at A'
          obtain ⟨cs5, A5, k5⟩ := unlk_ok A'
          exact fun v H4 ad4 e4 C4 s4 => A5 v H4 ad4 (eA.trans e4) (k5 _ _ C4) s4
        | ex y1 sl4 cs4 =>
          rw [z2] at A'
          obtain ⟨cs5, A5, k5⟩ := unlk_ok A'
          exact fun cls dd σ4 H4 ad4 e4 S4 C4 q4 => A5 cls dd σ4 H4 ad4 (eA.trans e4) S4 (k5 _ _ C4) q4
    · exact A'.elim
  · left
    have hie : i = ts.length := by omega
    subst hie
    rw [List.drop_length] at A'
    have l : LockOk lk ts cs' := by
      unfold loopF unlk at A'
      split at A'
      · assumption
      · exact A'.elim
    obtain ⟨cs5, A5, k5⟩ := unlk_ok (show AftS g W Z H' ad' (unlk lk ts (fun c => .nx sl' c) cs') from A')
    exact ⟨s1.stop _ H' ad' cs' e' C' l rfl, A5 σ' H' ad' Ex.refl S' (k5 _ _ C')⟩
end
end Mi
set_option Elab.async false
set_option linter.all false
set_option autoImplicit false
set_option maxRecDepth 100000
set_option maxHeartbeats 1000000
namespace Mi
open PySem PySem.Spec PyProof.Rows L2
variable [TbC]
/-! ### a def -/
def finR (n : Nat) (r : SV) (cs : Cs) : R SV := match r with
  | .t t => .ok (.t t) (cs.take n)
  | .c i => if i < n then .ok (.c i) (cs.take n) else (match take1 (.c i) cs with
    | some (t, c1) => .ok (.t t) (c1.take n)
    | none => .bad)
  | .x _ => .bad
def runF (N : Nat) (body : DS) : List SV → Cs → R SV := fun rs cs => match body (rs.map some ++ List.replicate (N - rs.length) none) cs with
  | .nx _ c => finR cs.length (.t .none) c
  | .rt r c => finR cs.length r c
  | .ex x _ c => .ex x (c.take cs.length)
  | _ => .bad
theorem exTake {H H' : Hp} {ad ad' : Ad} (e : Ex H ad H' ad') : Ex H ad H' (ad'.take ad.length) := by
  refine ⟨e.keep, fun P q z h => (e.tab P q z h).sub fun a _ n m => n (List.mem_of_mem_take m), e.there, by rw [List.length_take]; have := e.len; omega, fun i a q hl => ?_, fun i a q hl => ?_⟩
  · rw [List.getElem?_take, if_pos hl] at q
    exact e.old i a q hl
  · rw [List.getElem?_take, if_neg (by omega)] at q
    cases q
theorem takeK {ad : Ad} (n : Nat) : ∀ a : Addr, some a ∉ ad → some a ∉ ad.take n := fun a h m => h (List.mem_of_mem_take m)
theorem Cl.sub {H : Hp} {ad ad' : Ad} (k : ∀ a : Addr, some a ∉ ad → some a ∉ ad') {o : Option Addr} {c : C} (h : Cl H ad o c) : Cl H ad' o c := by
  cases o with
  | none => cases c <;> exact h
  | some a =>
    cases c with
    | dead => exact h
    | lst ts => obtain ⟨xs, h1, h2⟩ := h; exact ⟨xs, h1, Rps.sub k _ _ h2⟩
    | lock ts => obtain ⟨xs, h1, h2⟩ := h; exact ⟨xs, h1, Rps.sub k _ _ h2⟩
    | dct ts => obtain ⟨xs, h1, h2⟩ := h; exact ⟨xs, h1, RpKs.sub k _ _ h2⟩
theorem CsR.take {H : Hp} {ad : Ad} {cs : Cs} (c : CsR H ad cs) (n : Nat) : CsR H (ad.take n) (cs.take n) := by
  have at_ : ∀ (i : Nat) (o : Option Addr), (ad.take n)[i]? = some o → ad[i]? = some o := fun i o q => by
    rw [List.getElem?_take] at q
    split at q
    · exact q
    · cases q
  refine ⟨by simp [c.len], fun i j a q1 q2 => c.inj i j a (at_ _ _ q1) (at_ _ _ q2), fun i o k q1 q2 => ?_⟩
  have q2' : cs[i]? = some k := by
    rw [List.getElem?_take] at q2
    split at q2
    · exact q2
    · cases q2
  exact Cl.sub (takeK n) (c.cell i o k (at_ _ _ q1) q2')
theorem XcR.sub {g : G} {H : Hp} {ad ad' : Ad} (k : ∀ a : Addr, some a ∉ ad → some a ∉ ad') {x : Xc} {cls : Value} {dd : Option Addr} (h : XcR g H ad x cls dd) : XcR g H ad' x cls dd := by
  obtain ⟨h1, d, fs, h2, h3, h4, h5⟩ := h
  refine ⟨h1, d, fs, h2, k d h3, h4, ?_⟩
  have key : ∀ (ts : List (Str × T)) (xs : List (Str × V)), RpF H ad xs ts → RpF H ad' xs ts := by
    intro ts
    induction ts with
    | nil => exact fun _ h => h
    | cons p ts ih =>
      obtain ⟨f, t⟩ := p
      exact fun _ ⟨x, r, q1, q2, q3⟩ => ⟨x, r, q1, Rp.sub k t x q2, ih r q3⟩
  exact key _ _ h5
theorem exEnd {H H' : Hp} {ad ad' ad2 : Ad} (e : Ex H ad H' ad') (f : Ex H' ad' H' ad2) : Ex H ad H' (ad2.take ad.length) := exTake (e.trans f)
theorem start_ok {g : G} {H : Hp} {ad : Ad} {N : List Str} {vs : List V} {rs : List SV} (h : SvsR g H ad vs rs) (hl : vs.length ≤ N.length) (tb : ∀ P q, TbC.tb = some (P, q) → TabC H ad P q) : StR g H ad (L2.start N vs) (rs.map some ++ List.replicate (N.length - rs.length) none) := by
  have len : ∀ {rs : List SV} {vs : List V}, SvsR g H ad vs rs → vs.length = rs.length := by
    intro rs
    induction rs with
    | nil => intro vs h; have h : vs = [] := h; subst h; rfl
    | cons r rs ih => intro vs ⟨v, q, h1, h2, h3⟩; rw [h1, List.length_cons, List.length_cons, ih h3]
  have get : ∀ {rs : List SV} {vs : List V} {i : Nat} {r : SV}, SvsR g H ad vs rs → rs[i]? = some r → ∃ v, vs[i]? = some v ∧ SvR g H ad v r := by
    intro rs
    induction rs with
    | nil => intro vs i r _ e; simp at e
    | cons r0 rs ih =>
      intro vs i r ⟨v, q, h1, h2, h3⟩ e
      subst h1
      cases i with
      | zero => simp at e; subst e; exact ⟨v, rfl, h2⟩
      | succ i =>
        obtain ⟨v', q1, q2⟩ := ih h3 (by simpa using e)
        exact ⟨v', by simpa using q1, q2⟩
  have hln := len h
  refine ⟨by unfold L2.start; simp [hln], fun i r e => ?_, tb⟩
  unfold L2.start
  by_cases hi : i < rs.length
  · rw [List.getElem?_append_left (by simpa using hi), List.getElem?_map] at e
    cases z : rs[i]? with
    | none => rw [z] at e; cases e
    | some r' =>
      rw [z] at e
      cases e
      obtain ⟨v, q1, q2⟩ := get h z
      exact ⟨v, by rw [List.getElem?_append_left (by simp; omega), List.getElem?_map, q1]; rfl, q2⟩
  · rw [List.getElem?_append_right (by simp; omega), List.getElem?_replicate] at e
    split at e <;> cases e
abbrev FnM (g : G) (P : Program) (w : World) (K : PySem.W.Frag) (mg : Str → Option Value) (base : Heap) (k : Nat) (f : Addr) (fd : FuncData) (ps : List Str) (F : List SV → Cs → R SV) : Prop := FnOk P w K mg base (L2.CX P w) k f fd ps (spM g ps.length F)
theorem finR_ok {g : G} {H H' : Hp} {ad ad' : Ad} {cs c : Cs} {r r' : SV} {c' : Cs} {v : V} (h0 : CsR H ad cs) (e : Ex H ad H' ad') (C : CsR H' ad' c) (s : SvR (g0 g) H' ad' v r) (q : finR cs.length r c = .ok r' c') : ∃ ad2, Ex H ad H' ad2 ∧ CsR H' ad2 c' ∧ SvR (g0 g) H' ad2 v r' := by
  have hl : cs.length = ad.length := h0.len.symm
  unfold finR at q
  cases r with
  | x x => cases q
  | t t =>
    cases q
    rw [hl]
    exact ⟨_, exTake e, C.take _, Rp.sub (takeK _) t v s⟩
  | c i =>
    simp only at q
    split at q
    · rename_i hi
      cases q
      rw [hl] at hi ⊢
      refine ⟨_, exTake e, C.take _, by rw [List.length_take]; have := e.len; omega, fun a z => s.2 a ?_⟩
      rw [List.getElem?_take, if_pos hi] at z
      exact z
    · cases z : take1 (.c i) c with
      | none => rw [z] at q; cases q
      | some p =>
        obtain ⟨t, c1⟩ := p
        rw [z] at q
        cases q
        obtain ⟨ad3, e3, C3, r3⟩ := take1_ok C s z
        rw [hl]
        exact ⟨_, exEnd e e3, C3.take _, Rp.sub (takeK _) t v r3⟩
theorem finR_ex {n : Nat} {r : SV} {c c' : Cs} {x : Xc} : finR n r c ≠ .ex x c' := by
  unfold finR
  split
  · simp
  · split
    · simp
    · split <;> simp
  · simp
/-- THE RULE: a def of the text keeps the promise of its meaning -/
theorem fn_m {g : G} {P : Program} {w : World} {K : PySem.W.Frag} {mg : Str → Option Value} {base : Heap} {x qual : Str} {st : Stmt} {f : Addr} {fd : FuncData} {N ps : List Str} {k n : Nat} {body : DS} (F : Fun K x qual st f fd) (S : FnScope N ps (defScope st)) (hn : N.length = n)
    (hb : ∀ (cdv : Value) (A : Around) (outer : List Env) (s : Shared) (H : Hp) (E : XK), Room k (A.deeper (envOfC qual (defScope st) s.heap.objs.size f cdv)) → MSs (g0 g) (fun cls d _ H => E cls d H) (cxOf (L2.CX P w) P w K mg base N qual (defScope st) f cdv A outer s H E) (defBody st) body) :
    FnM g P w K mg base (k + 1) f fd ps (runF n body) := by
  subst hn
  have hpl : ps.length ≤ N.length := by have := congrArg List.length S.pre; rw [List.length_take] at this; omega
  refine F.okX S (fun vs H Q E h => h.1) (fun cdv A outer s H vs Q E hr h => ⟨_, hb cdv A outer s H E hr, ?_⟩)
  obtain ⟨hl, rs, cs, ad, sv, C, TB, A1⟩ := h
  refine ⟨_, cs, ad, start_ok sv (by omega) TB, C, ?_⟩
  unfold runF at A1
  cases z : body (rs.map some ++ List.replicate (N.length - rs.length) none) cs with
  | bad => rw [z] at A1; exact A1
  | bk sl c => rw [z] at A1; exact A1.elim
  | ct sl c => rw [z] at A1; exact A1.elim
  | ex y sl c =>
    rw [z] at A1
    exact fun cls dd σ' H' ad' e s' c' q => A1 cls dd H' _ (exTake e) (by rw [C.len]; exact c'.take _) (q.sub (takeK _))
  | nx sl c =>
    rw [z] at A1
    simp only at A1
    intro σ' H' ad' e s' c'
    cases z2 : finR cs.length (.t .none) c with
    | bad => rw [z2] at A1; exact A1.elim
    | ex y d => exact absurd z2 finR_ex
    | ok r' d =>
      rw [z2] at A1
      obtain ⟨ad2, q1, q2, q3⟩ := finR_ok (g := g) (v := .non) C e c' (r := .t .none) (show Rp H' ad' .non .none from rfl) z2
      exact A1 .non H' ad2 q1 q2 q3
  | rt r c =>
    rw [z] at A1
    simp only at A1
    intro v H' ad' e c' s'
    cases z2 : finR cs.length r c with
    | bad => rw [z2] at A1; exact A1.elim
    | ex y d => exact absurd z2 finR_ex
    | ok r' d =>
      rw [z2] at A1
      obtain ⟨ad2, q1, q2, q3⟩ := finR_ok (g := g) C e c' s' z2
      exact A1 v H' ad2 q1 q2 q3
/-- what is known where a def's body begins -/
theorem takes_body {P : Program} {w : World} {K : PySem.W.Frag} {mg : Str → Option Value} {base : Heap} {N : List Str} {qual : Str} {sc : Scope} {f : Addr} {cdv : Value} {A : Around} {outer : List Env} {s : Shared} {H : Hp} {E : XK} :
    Takes (cxOf (L2.CX P w) P w K mg base N qual sc f cdv A outer s H E) (fun cls d _ H => E cls d H) := takes_of rfl rfl rfl rfl
theorem passes_body {P : Program} {w : World} {K : PySem.W.Frag} {mg : Str → Option Value} {base : Heap} {N : List Str} {qual : Str} {sc : Scope} {f : Addr} {cdv : Value} {A : Around} {outer : List Env} {s : Shared} {H : Hp} {E : XK} :
    PassesOwn (model P w) (cxOf (L2.CX P w) P w K mg base N qual sc f cdv A outer s H E).A (cxOf (L2.CX P w) P w K mg base N qual sc f cdv A outer s H E).env (cxOf (L2.CX P w) P w K mg base N qual sc f cdv A outer s H E).xe := PassesOwn.leaving
end Mi
set_option Elab.async false
set_option linter.all false
set_option autoImplicit false
set_option maxRecDepth 100000
set_option maxHeartbeats 1000000
namespace Mi
open PySem PySem.Spec PyProof.Rows L2
variable [TbC]
/-! ### comprehensions: the new list is a cell while it grows -/
abbrev Wf : WX := fun _ _ _ _ => False
def wipeS (sl : Sl) : List Nat → Sl
  | [] => sl
  | v :: vs => (wipeS sl vs).set v none
theorem StR.wipe {g : G} {H : Hp} {ad : Ad} {σ : L2.St} {sl : Sl} (h : StR g H ad σ sl) : ∀ vs, StR g H ad (L2.wipe σ vs) (wipeS sl vs)
  | [] => h
  | v :: vs => by
    have ih := StR.wipe h vs
    refine ⟨by simp [L2.wipe, wipeS, ih.len], fun i r e => ?_, h.tb⟩
    unfold wipeS at e
    rw [List.getElem?_set] at e
    by_cases hi : v = i
    · subst hi
      rw [if_pos rfl] at e
      split at e <;> cases e
    · rw [if_neg hi] at e
      obtain ⟨u, q1, q2⟩ := ih.at_ i r e
      exact ⟨u, by unfold L2.wipe; rw [List.getElem?_set, if_neg hi]; exact q1, q2⟩
theorem wipe_set {i : Nat} {o : Option V} : ∀ {vs : List Nat} {σ : L2.St}, i ∈ vs → L2.wipe (σ.set i o) vs = L2.wipe σ vs
  | [], _, h => by simp at h
  | v :: vs, σ, h => by
    unfold L2.wipe
    by_cases hi : i ∈ vs
    · rw [wipe_set hi]
    · have hv : i = v := by rcases List.mem_cons.mp h with z | z; exact z; exact absurd z hi
      subst hv
      have key : ∀ (ws : List Nat) (τ : L2.St), i ∉ ws → L2.wipe (τ.set i o) ws = (L2.wipe τ ws).set i o := by
        intro ws
        induction ws with
        | nil => intro τ _; rfl
        | cons w ws ih =>
          intro τ hw
          have h1 : i ≠ w := fun z => hw (by simp [z])
          have h2 : i ∉ ws := fun z => hw (by simp [z])
          unfold L2.wipe
          rw [ih τ h2, List.set_comm _ _ h1]
      rw [key vs σ hi, List.set_set]
theorem wipe_wipe {vs : List Nat} {σ : L2.St} : L2.wipe (L2.wipe σ vs) vs = L2.wipe σ vs := by
  have key : ∀ (ws : List Nat) (τ : L2.St), (∀ v ∈ ws, v ∈ vs) → L2.wipe (L2.wipe τ ws) vs = L2.wipe τ vs := by
    intro ws
    induction ws with
    | nil => intro τ _; rfl
    | cons w ws ih =>
      intro τ h
      show L2.wipe ((L2.wipe τ ws).set w none) vs = _
      rw [wipe_set (h w (by simp)), ih τ fun v hv => h v (by simp [hv])]
  exact key vs σ fun _ h => h
/-- a target that stores names of the block alone -/
structure TgOk (g : G) (vs : List Nat) (gt : TG) (t : DG) : Prop where
  fix : ∀ (r : SV) (sl sl' : Sl) (cs cs' : Cs), t r sl cs = .ok sl' cs' → cs' = cs
  run : ∀ (H : Hp) (ad : Ad) (v : V) (r : SV) (sl sl' : Sl) (cs cs' : Cs) (σ : L2.St) (Q : L2.St → Hp → Prop), StR g H ad σ sl → SvR g H ad v r → t r sl cs = .ok sl' cs' →
    (∀ σ', StR g H ad σ' sl' → L2.wipe σ' vs = L2.wipe σ vs → Q σ' H) → gt v σ H Q
structure TgsOk (g : G) (vs : List Nat) (gt : TGs) (t : DGs) : Prop where
  fix : ∀ (r : List SV) (sl sl' : Sl) (cs cs' : Cs), t r sl cs = .ok sl' cs' → cs' = cs
  run : ∀ (H : Hp) (ad : Ad) (v : List V) (r : List SV) (sl sl' : Sl) (cs cs' : Cs) (σ : L2.St) (Q : L2.St → Hp → Prop), StR g H ad σ sl → SvsR g H ad v r → t r sl cs = .ok sl' cs' →
    (∀ σ', StR g H ad σ' sl' → L2.wipe σ' vs = L2.wipe σ vs → Q σ' H) → gt v σ H Q
section
variable {X : Cx} {g : G} {W : WX}
theorem tok_name {i : Nat} {vs : List Nat} (h : i ∈ vs) : TgOk g vs (gName i) (tgName i) :=
  ⟨fun r sl sl' cs cs' e => by unfold tgName at e; cases e; rfl, fun H ad v r sl sl' cs cs' σ Q S s e k => by
    unfold tgName at e
    cases e
    exact k _ (S.set s) (wipe_set h)⟩
theorem toks_nil {vs : List Nat} : TgsOk g vs gNil tgNil :=
  ⟨fun r sl sl' cs cs' e => (by
    cases r with
    | nil => cases e; rfl
    | cons a b => cases e), fun H ad v r sl sl' cs cs' σ Q S s e k => by
    cases r with
    | nil => cases e; exact ⟨s, k σ S rfl⟩
    | cons a b => cases e⟩
theorem toks_cons {i : Nat} {vs : List Nat} {gt : TGs} {t : DGs} (h : i ∈ vs) (ht : TgsOk g vs gt t) : TgsOk g vs (gCons (gName i) gt) (tgCons i t) :=
  ⟨fun r sl sl' cs cs' e => by
    cases r with
    | nil => cases e
    | cons a b => exact ht.fix b _ sl' cs cs' e, fun H ad v r sl sl' cs cs' σ Q S s e k => by
    cases r with
    | nil => cases e
    | cons a b =>
      obtain ⟨u, q, rfl, s1, s2⟩ := s
      exact ⟨u, q, rfl, ht.run H ad q b _ sl' cs cs' (σ.set i (some u)) Q (S.set s1) s2 e fun σ' S' w => k σ' S' (w.trans (wipe_set h))⟩⟩
theorem tok_tup {K : PySem.W.Frag} {vs : List Nat} {n : Nat} {gt : TGs} {t : DGs} (ht : TgsOk g vs gt t) : TgOk g vs (gTup K n gt) (tgTup n t) :=
  ⟨fun r sl sl' cs cs' e => (by
    unfold tgTup at e
    split at e
    · split at e
      · exact ht.fix _ _ _ _ _ e
      · cases e
    · cases e), fun H ad v r sl sl' cs cs' σ Q S s e k => by
    cases r with
    | c i => cases e
    | x x => cases e
    | t u =>
      cases u <;> first | (cases e; done) | skip
      rename_i ts
      obtain ⟨a, xs, rfl, h2, h3, h4⟩ := s
      unfold tgTup at e
      simp only at e
      split at e
      · rename_i hl
        exact ⟨a, xs, rfl, SqT.of h2, by rw [h4.len, hl], ht.run H ad xs _ sl sl' cs cs' σ Q S (svs_of h4) e k⟩
      · cases e⟩
theorem toks_in {vs : List Nat} {gt : TG} {gs : TGs} {t : DG} {u : DGs} (h : TgOk g vs gt t) (ht : TgsOk g vs gs u) : TgsOk g vs (gCons gt gs) (tgIn t u) :=
  ⟨fun r sl sl' cs cs' e => by
    cases r with
    | nil => cases e
    | cons a b =>
      unfold tgIn at e
      simp only at e
      cases z : t a sl cs with
      | bad => rw [z] at e; cases e
      | ex x c => rw [z] at e; cases e
      | ok sl1 cs1 =>
        rw [z] at e
        have e1 := h.fix _ _ _ _ _ z
        subst e1
        exact ht.fix _ _ _ _ _ e, fun H ad v r sl sl' cs cs' σ Q S s e k => by
    cases r with
    | nil => cases e
    | cons a b =>
      obtain ⟨w, q, rfl, s1, s2⟩ := s
      unfold tgIn at e
      simp only at e
      cases z : t a sl cs with
      | bad => rw [z] at e; cases e
      | ex x c => rw [z] at e; cases e
      | ok sl1 cs1 =>
        rw [z] at e
        exact ⟨w, q, rfl, h.run H ad w a sl sl1 cs cs1 σ (fun σ1 H1 => gs q σ1 H1 Q) S s1 z fun σ1 S1 w1 => ht.run H ad q b sl1 sl' cs1 cs' σ1 Q S1 s2 e fun σ' S' w2 => k σ' S' (w2.trans w1)⟩⟩
/-! the loop of a comprehension -/
open Classical in
noncomputable def unlR {α : Type} (lk : Option Nat) (ts : List T) (f : Cs → R α) (cs : Cs) : R α := if LockOk lk ts cs then (match lk with | none => f cs | some i => f (cs.set i (.lst ts))) else .bad
open Classical in
noncomputable def compL (t : DG) (c : D Bool) (e : D SV) (vs : List Nat) (j : Nat) (lk : Option Nat) (all : List T) : List T → Sl → Cs → R Unit
  | [], _, cs => unlR lk all (fun c => .ok () c) cs
  | x :: xs, sl, cs => if LockOk lk all cs then (match t (.t x) (wipeS sl vs) cs with
      | .ok sl1 cs1 => (match c sl1 cs1 with
        | .ok true cs2 => (match e sl1 cs2 with
          | .ok r cs3 => (match appC (.c j) r cs3 with
            | .ok _ cs4 => compL t c e vs j lk all xs sl cs4
            | _ => .bad)
          | _ => .bad)
        | .ok false cs2 => compL t c e vs j lk all xs sl cs2
        | _ => .bad)
      | _ => .bad) else .bad
noncomputable def dComp (it : DI) (t : DG) (c : D Bool) (e : D SV) (vs : List Nat) : D SV := fun sl cs => (it sl cs).bind fun p c1 => (compL t c e vs c1.length p.2 p.1 p.1 sl (c1 ++ [.lst []])).bind fun _ c2 => match take1 (.c c1.length) c2 with
  | some (u, c3) => .ok (.t u) (c3.take c1.length)
  | none => .bad
/-- the same, the list will change -/
noncomputable def dCompN (it : DI) (t : DG) (c : D Bool) (e : D SV) (vs : List Nat) : D SV := fun sl cs => (it sl cs).bind fun p c1 => (compL t c e vs c1.length p.2 p.1 p.1 sl (c1 ++ [.lst []])).bind fun _ c2 => .ok (.c c1.length) (c2.take (c1.length + 1))
def dYes : D Bool := fun _ cs => .ok true cs
theorem unlR_ok {α : Type} {lk : Option Nat} {ts : List T} {f : Cs → R α} {cs : Cs} (h : unlR lk ts f cs ≠ .bad) : LockOk lk ts cs ∧ ∃ cs', unlR lk ts f cs = f cs' ∧ (∀ H' ad', CsR H' ad' cs → CsR H' ad' cs') := by
  unfold unlR at h ⊢
  split at h
  · rename_i l
    refine ⟨l, ?_⟩
    rw [if_pos l]
    cases lk with
    | none => exact ⟨cs, rfl, fun _ _ c => c⟩
    | some i => exact ⟨_, rfl, fun _ _ c => c.unlock l⟩
  · exact absurd rfl h
/-- the comprehension's two ends: what is done with the cell -/
theorem rd_comp {σ : L2.St} {H : Hp} {Q : VK} {gt : TG} {t : DG} {it : DI} {c : D Bool} {e : D SV} {vs : List Nat} {fin : Nat → Cs → R SV} (tk : TgOk g vs gt t)
    (hf : ∀ (H1 : Hp) (ad1 : Ad) (c1 c2 : Cs) (H2 : Hp) (ad2 : Ad) (A : Addr), CsR H1 ad1 c1 → Ex H1 ad1 H2 ad2 → CsR H2 ad2 c2 → SvR g H2 ad2 (.ref A) (.c c1.length) → H1 A = none → Aft g W σ (relE g) H1 ad1 (fin c1.length c2) Q → Q (.ref A) H2)
    (hw : rd g W (relE g) (fun sl cs => (it sl cs).bind fun p c1 => (compL t c e vs c1.length p.2 p.1 p.1 sl (c1 ++ [.lst []])).bind fun _ c2 => fin c1.length c2) σ H Q) :
    tLc (rd g W relI it) gt (rd g Wf relB c) (rd g Wf (relE g) e) vs σ H Q := by
  obtain ⟨sl, cs, ad, S, C, A⟩ := hw
  refine ⟨sl, cs, ad, S, C, Aft.bind (rel := relI) A fun J p c1 H1 ad1 e1 C1 s1 A1 D0 nD => ?_⟩
  obtain ⟨ts, lk⟩ := p
  have S1 := S.mono e1
  have hl1 := C1.len
  obtain ⟨e2, C2⟩ := C1.new (k := .lst []) (o := .lst []) nD ⟨[], upd_same, rfl⟩
  refine ⟨fun i m H' => ∃ cs' ad', m = ts.length - i ∧ i ≤ ts.length ∧ Ex H1 ad1 H' ad' ∧ CsR H' ad' cs' ∧ SvR g H' ad' (.ref D0) (.c c1.length) ∧ Aft g W σ (relE g) H1 ad1 ((compL t c e vs c1.length lk ts (ts.drop i) sl cs').bind fun _ c2 => fin c1.length c2) Q,
    ⟨ts.length, _, _, by simp, Nat.zero_le _, e2, C2, ?_, by simpa using A1⟩, ?_⟩
  · refine ⟨by simp [hl1], fun a q => ?_⟩
    rw [← hl1, List.getElem?_append_right (Nat.le_refl _), Nat.sub_self] at q
    cases q; rfl
  rintro i m H' ⟨cs', ad', rfl, hi, e', C', hD, A'⟩
  by_cases hlt : i < ts.length
  · right
    rw [List.drop_eq_getElem_cons hlt] at A'
    unfold compL at A'
    split at A'
    · rename_i l
      have hx : ts[i]? = some ts[i] := by simp [hlt]
      obtain ⟨go, yld⟩ := s1.go i H' ad' cs' _ e' C' l hx
      refine ⟨go, fun H2 => ∃ cs2 ad2, Ex H1 ad1 H2 ad2 ∧ CsR H2 ad2 cs2 ∧ SvR g H2 ad2 (.ref D0) (.c c1.length) ∧ Aft g W σ (relE g) H1 ad1 ((compL t c e vs c1.length lk ts (ts.drop (i + 1)) sl cs2).bind fun _ c2 => fin c1.length c2) Q,
        fun H2 ⟨cs2, ad2, q1, q2, q3, q4⟩ => ⟨ts.length - (i + 1), by omega, cs2, ad2, rfl, hlt, q1, q2, q3, q4⟩, fun x H2 y => ?_⟩
      obtain ⟨sm, rp⟩ := yld x H2 y
      have e2' : Ex H1 ad1 H2 ad' := e'.trans (Ex.same sm)
      have C2' : CsR H2 ad' cs' := C'.same sm
      cases z : t (.t ts[i]) (wipeS sl vs) cs' with
      | bad => rw [z] at A'; exact A'.elim
      | ex y1 cs3 => rw [z] at A'; exact A'.elim
      | ok sl3 cs3 =>
        rw [z] at A'
        simp only at A'
        have ez := tk.fix _ _ _ _ _ z
        subst ez
        refine tk.run H2 ad' x (.t ts[i]) (wipeS sl vs) sl3 cs3 cs3 (L2.wipe σ vs) _ ((S1.mono e2').wipe vs) rp z fun σ3 S3 w3 => ⟨w3.trans wipe_wipe, sl3, cs3, ad', S3, C2', ?_⟩
        cases z2 : c sl3 cs3 with
        | bad => rw [z2] at A'; exact A'.elim
        | ex y1 cs4 => rw [z2] at A'; exact A'.elim
        | ok b cs4 =>
          rw [z2] at A'
          intro b' H4 ad4 e4 C4 eb
          obtain rfl : b' = b := eb
          cases b' with
          | false =>
            simp only at A'
            rw [if_neg Bool.false_ne_true]
            exact ⟨cs4, ad4, e2'.trans e4, C4, (hD.mono (Ex.same sm)).mono e4, A'⟩
          | true =>
            simp only at A'
            rw [if_pos rfl]
            refine ⟨sl3, cs4, ad4, S3.mono e4, C4, ?_⟩
            cases z3 : e sl3 cs4 with
            | bad => rw [z3] at A'; exact A'.elim
            | ex y1 cs5 => rw [z3] at A'; exact A'.elim
            | ok r cs5 =>
              rw [z3] at A'
              simp only at A'
              intro v H5 ad5 e5 C5 sv
              unfold appC at A'
              simp only at A'
              cases z4 : take1 r cs5 with
              | none => rw [z4] at A'; exact A'.elim
              | some p =>
                obtain ⟨u, cs6⟩ := p
                rw [z4] at A'
                simp only at A'
                obtain ⟨ad6, e6, C6, r6⟩ := take1_ok C5 sv z4
                cases z5 : cs6[c1.length]? with
                | none => rw [z5] at A'; exact A'.elim
                | some k =>
                  rw [z5] at A'
                  cases k with
                  | dead => exact A'.elim
                  | lock ts4 => exact A'.elim
                  | dct ts4 => exact A'.elim
                  | lst acc =>
                    simp only at A'
                    by_cases hlen : acc.length < sizeLine
                    · rw [if_pos hlen] at A'
                      have s6 := (((hD.mono (Ex.same sm)).mono e4).mono e5).mono e6
                      obtain ⟨a6, xs, h6, q0, q1, q2⟩ := C6.at_lst s6 z5
                      cases q0
                      refine ⟨xs, q1, by rw [q2.len]; exact hlen, ?_⟩
                      obtain ⟨e7, C7⟩ := C6.write (o := .lst (xs ++ [v])) (k := .lst (acc ++ [u])) h6 ⟨_, upd_same, Rps.mono (exWrite h6 (C6.notTbl h6) (fun _ z => by cases z)) _ _ (Rps.append q2 (Rps.one r6))⟩
                      exact ⟨_, ad6, (((e2'.trans e4).trans e5).trans e6).trans e7, C7, s6.mono e7, A'⟩
                    · rw [if_neg hlen] at A'
                      exact A'.elim
    · exact A'.elim
  · left
    have hie : i = ts.length := by omega
    subst hie
    rw [List.drop_length] at A'
    have nb : unlR lk ts (fun c => (R.ok () c : R Unit)) cs' ≠ .bad := fun q => by
      have A2 : Aft g W σ (relE g) H1 ad1 ((unlR lk ts (fun c => (R.ok () c : R Unit)) cs').bind fun _ c2 => fin c1.length c2) Q := A'
      rw [q] at A2
      exact A2.elim
    obtain ⟨l, cs5, q5, k5⟩ := unlR_ok nb
    have A2 : Aft g W σ (relE g) H1 ad1 ((unlR lk ts (fun c => (R.ok () c : R Unit)) cs').bind fun _ c2 => fin c1.length c2) Q := A'
    rw [q5] at A2
    exact ⟨s1.stop _ H' ad' cs' e' C' l rfl, hf H1 ad1 c1 cs5 H' ad' D0 C1 e' (k5 _ _ C') hD nD A2⟩
def finC (n : Nat) (c2 : Cs) : R SV := match take1 (.c n) c2 with
  | some (u, c3) => .ok (.t u) (c3.take n)
  | none => .bad
def finN (n : Nat) (c2 : Cs) : R SV := .ok (.c n) (c2.take (n + 1))
theorem finC_ok {σ : L2.St} {Q : VK} {H1 H2 : Hp} {ad1 ad2 : Ad} {c1 c2 : Cs} {A : Addr} (C1 : CsR H1 ad1 c1) (e : Ex H1 ad1 H2 ad2) (C2 : CsR H2 ad2 c2) (s : SvR g H2 ad2 (.ref A) (.c c1.length)) (h : Aft g W σ (relE g) H1 ad1 (finC c1.length c2) Q) : Q (.ref A) H2 := by
  unfold finC at h
  cases z : take1 (.c c1.length) c2 with
  | none => rw [z] at h; exact h.elim
  | some p =>
    obtain ⟨u, c3⟩ := p
    rw [z] at h
    obtain ⟨ad3, e3, C3, r3⟩ := take1_ok C2 s z
    rw [← C1.len] at h
    exact h _ H2 _ (exEnd e e3) (C3.take _) (Rp.sub (takeK _) u _ r3)
theorem finN_ok {σ : L2.St} {Q : VK} {H1 H2 : Hp} {ad1 ad2 : Ad} {c1 c2 : Cs} {A : Addr} (C1 : CsR H1 ad1 c1) (e : Ex H1 ad1 H2 ad2) (C2 : CsR H2 ad2 c2) (s : SvR g H2 ad2 (.ref A) (.c c1.length)) (n : H1 A = none) (h : Aft g W σ (relE g) H1 ad1 (finN c1.length c2) Q) : Q (.ref A) H2 := by
  have hl := C1.len
  refine h _ H2 (ad2.take (c1.length + 1)) ⟨e.keep, fun P q z h => (e.tab P q z h).sub fun a _ n m => n (List.mem_of_mem_take m), e.there, ?_, fun i a q hi => ?_, fun i a q hi => ?_⟩ (C2.take _) ⟨?_, fun a q => ?_⟩
  · rw [List.length_take]; have := e.len; have := s.1; omega
  · rw [List.getElem?_take, if_pos (by omega)] at q
    exact e.old i a q hi
  · rw [List.getElem?_take] at q
    split at q
    · have hi' : i = c1.length := by omega
      subst hi'
      have z := s.2 a q
      cases z
      exact fun ⟨o, z, _⟩ => by rw [n] at z; cases z
    · cases q
  · rw [List.length_take]; have := s.1; omega
  · rw [List.getElem?_take, if_pos (by omega)] at q
    exact s.2 a q
variable {elt tg iter : Expr} {ifs : List Expr} {scope : Scope} {own : List (Str × Nat)} {pos spos py : Pos} {d : DI} {gt : TG} {t : DG} {dc : D Bool} {de : D SV} {i : Nat} {y : Str}
def MTs (g : G) (W : WX) (X : Cx) (es : List Expr) (d : D Bool) : Prop := PTs X es (rd g W relB d)
theorem PTs.cons {es : List Expr} {t t' : TT} (h : PTs X es t) (f : ∀ σ H Q, t' σ H Q → t σ H Q) : PTs X es t' := ⟨fun pins s σ H Q I hw => h.run pins s σ H Q I (f σ H Q hw)⟩
theorem mts_nil : MTs g W X [] dYes := PTs.cons pts_nil fun σ H Q ⟨sl, cs, ad, S, C, A⟩ => A _ H ad Ex.refl C rfl
theorem mts_one {e : Expr} {c : D Bool} (h : MT g W X e c) : MTs g W X [e] c := pts_one h
/-- the context of a comprehension's block -/
abbrev Cx.bl (X : Cx) (scope : Scope) (s : Shared) (H : Hp) (C : Addr) (cl : List (Str × Addr)) (fp : List Addr) : Cx := X.blk s H scope (compEnvC scope cl C X.env) fp
theorem m_lc (hc : X.calm = true) (hN : X.N.Nodup) (hi : MI g W X tg iter d) (ok : BlkOk X.N X.env.scope scope own) (hg : ∀ s H C cl fp, PG (Cx.bl X scope s H C cl fp) tg gt) (tk : TgOk g (own.map (·.2)) gt t)
    (ht : ∀ s H C cl fp, MTs g Wf (Cx.bl X scope s H C cl fp) ifs dc) (he : ∀ s H C cl fp, ME g Wf (Cx.bl X scope s H C cl fp) elt de) (hs : ∀ x, foldedSetIterable iter X.env x = pure x := by intro _; rfl) :
    ME g W X (.ListComp elt [⟨tg, iter, ifs, 0⟩] scope pos) (dComp d t dc de (own.map (·.2))) :=
  PE.cons (pe_lc hc hN hi ok hg ht he hs) fun σ H Q hw => rd_comp (fin := finC) tk (fun _ _ _ _ _ _ _ C1 e C2 s _ h => finC_ok C1 e C2 s h) hw
theorem m_lcN (hc : X.calm = true) (hN : X.N.Nodup) (hi : MI g W X tg iter d) (ok : BlkOk X.N X.env.scope scope own) (hg : ∀ s H C cl fp, PG (Cx.bl X scope s H C cl fp) tg gt) (tk : TgOk g (own.map (·.2)) gt t)
    (ht : ∀ s H C cl fp, MTs g Wf (Cx.bl X scope s H C cl fp) ifs dc) (he : ∀ s H C cl fp, ME g Wf (Cx.bl X scope s H C cl fp) elt de) (hs : ∀ x, foldedSetIterable iter X.env x = pure x := by intro _; rfl) :
    ME g W X (.ListComp elt [⟨tg, iter, ifs, 0⟩] scope pos) (dCompN d t dc de (own.map (·.2))) :=
  PE.cons (pe_lc hc hN hi ok hg ht he hs) fun σ H Q hw => rd_comp (fin := finN) tk (fun _ _ _ _ _ _ _ C1 e C2 s n h => finN_ok C1 e C2 s n h) hw
/-- name = [..], on one line -/
theorem ms_setLc (hc : X.calm = true) (hN : X.N.Nodup) (hy : X.N[i]? = some y) (hyl : X.env.scope.names.lookup y = some .local) (hsw : swapsWith (.ListComp elt [⟨tg, iter, ifs, 0⟩] scope pos) (some (.Name y py)) spos.line X.env = pure true) (hi : MI g W X tg iter d) (ok : BlkOk X.N X.env.scope scope own) (hg : ∀ s H C cl fp, PG (Cx.bl X scope s H C cl fp) tg gt) (tk : TgOk g (own.map (·.2)) gt t)
    (ht : ∀ s H C cl fp, MTs g Wf (Cx.bl X scope s H C cl fp) ifs dc) (he : ∀ s H C cl fp, ME g Wf (Cx.bl X scope s H C cl fp) elt de) (hs : ∀ x, foldedSetIterable iter X.env x = pure x := by intro _; rfl) :
    MS g W X (.Assign [.Name y py] (.ListComp elt [⟨tg, iter, ifs, 0⟩] scope pos) spos) (dAsg (dComp d t dc de (own.map (·.2))) (tgName i)) :=
  PS.cons (ps_setLc hc hN hy hyl hsw hi ok hg ht he hs) fun Z σ H hw => by
    have h1 := rd_asg Z σ H hw
    refine rd_comp (fin := finC) (W := W) tk (fun _ _ _ _ _ _ _ C1 e C2 s _ h => finC_ok C1 e C2 s h) ?_
    obtain ⟨sl, cs, ad, S, C, A⟩ := h1
    exact ⟨sl, cs, ad, S, C, A.imp fun v H1 ⟨r, sl, cs, ad, S, C, s, A⟩ => A _ H1 ad Ex.refl (S.set s) C⟩
theorem ms_setLcN (hc : X.calm = true) (hN : X.N.Nodup) (hy : X.N[i]? = some y) (hyl : X.env.scope.names.lookup y = some .local) (hsw : swapsWith (.ListComp elt [⟨tg, iter, ifs, 0⟩] scope pos) (some (.Name y py)) spos.line X.env = pure true) (hi : MI g W X tg iter d) (ok : BlkOk X.N X.env.scope scope own) (hg : ∀ s H C cl fp, PG (Cx.bl X scope s H C cl fp) tg gt) (tk : TgOk g (own.map (·.2)) gt t)
    (ht : ∀ s H C cl fp, MTs g Wf (Cx.bl X scope s H C cl fp) ifs dc) (he : ∀ s H C cl fp, ME g Wf (Cx.bl X scope s H C cl fp) elt de) (hs : ∀ x, foldedSetIterable iter X.env x = pure x := by intro _; rfl) :
    MS g W X (.Assign [.Name y py] (.ListComp elt [⟨tg, iter, ifs, 0⟩] scope pos) spos) (dAsg (dCompN d t dc de (own.map (·.2))) (tgName i)) :=
  PS.cons (ps_setLc hc hN hy hyl hsw hi ok hg ht he hs) fun Z σ H hw => by
    have h1 := rd_asg Z σ H hw
    refine rd_comp (fin := finN) (W := W) tk (fun _ _ _ _ _ _ _ C1 e C2 s n h => finN_ok C1 e C2 s n h) ?_
    obtain ⟨sl, cs, ad, S, C, A⟩ := h1
    exact ⟨sl, cs, ad, S, C, A.imp fun v H1 ⟨r, sl, cs, ad, S, C, s, A⟩ => A _ H1 ad Ex.refl (S.set s) C⟩
end
end Mi
set_option Elab.async false
set_option linter.all false
set_option autoImplicit false
set_option maxRecDepth 100000
set_option maxHeartbeats 2000000
namespace Mi
open PySem PySem.Spec PyProof.Rows L2
variable [TbC]
/-! ### lists and tuples alike: true for a tuple -/
def ObX (b : Bool) (h : Heap) (l : Addr) (its : Array Value) : Prop := match b with
  | true => h.IsTuple l its
  | false => h.IsList l its
def ItX (b : Bool) (h : Heap) (it l : Addr) (i : Nat) : Prop := match b with
  | true => h.IsTupleIter it l i
  | false => h.IsListIter it l i
def nmX (b : Bool) : String := match b with
  | true => "tuple_iterator"
  | false => "list_iterator"
def SqX (K : PySem.W.Frag) (b : Bool) (H : Hp) (a : Addr) (xs : List V) : Prop := match b with
  | true => SqT K H a xs
  | false => SqL K H a xs
abbrev Grows (h h' : Heap) : Prop := ∀ c o, h.get? c = some o → h'.get? c = some o
theorem drawX {prog : Program} {w : World} {A : Around} (hh : A.handled = none) (b : Bool) (it l : Addr) (hne : l ≠ it) (its : Array Value) :
    Draws prog w A it [it, l] its.size (fun i v => its[i]? = some v) (fun i h => ItX b h it l i ∧ ObX b h l its) := by
  cases b with
  | true => exact Draws.tuple hh it l hne its
  | false => exact Draws.list hh it l hne its
theorem ItX.at {b : Bool} {h h' : Heap} {it l : Addr} {i : Nat} (x : ItX b h it l i) (k : ∀ o, h.get? it = some o → h'.get? it = some o) : ItX b h' it l i := by
  cases b with
  | true => exact Heap.IsTupleIter.at x k
  | false => exact Heap.IsListIter.at x k
theorem ItX.obj {b : Bool} {h : Heap} {it l : Addr} {i : Nat} (x : ItX b h it l i) : ∃ o, h.get? it = some o ∧ ∀ v, o.data ≠ .cell v := by
  cases b <;> (obtain ⟨o, e, _, d⟩ := x; exact ⟨o, e, fun v q => by rw [d] at q; cases q⟩)
theorem ItX.new (b : Bool) (h : Heap) (l : Addr) : ItX b (h.push { cls := .type (nmX b), data := .fields #[.ref l, .int 0 0] }) h.objs.size l 0 := by
  cases b <;> exact ⟨_, Heap.get?_push_size _ rfl, rfl, rfl⟩
theorem ItX.grows {b : Bool} {h h' : Heap} {it l : Addr} {i : Nat} (x : ItX b h it l i) (k : Grows h h') : ItX b h' it l i := x.at (k it)
theorem Grows.push {h : Heap} (o : Obj) : Grows h (h.push o) := fun _ _ e => Heap.get?_push_of_some _ e
theorem Grows.trans {a b c : Heap} (x : Grows a b) (y : Grows b c) : Grows a c := fun i o e => y i o (x i o e)
theorem pyIterX {A : Around} {E : Value → Shared → Prop} {s : Shared} {b : Bool} {l : Addr} {its : Array Value} {prog : Program} {w : World} {Q : Value → Shared → Prop} (hl : ObX b s.heap l its)
    (h : Q (.ref s.heap.objs.size) { s with heap := s.heap.push { cls := .type (nmX b), data := .fields #[.ref l, .int 0 0] } }) : wpAny (model prog w) A (pyIter (.ref l)) Q E s := by
  cases b with
  | true => exact wpAny_pyIter_tuple hl h
  | false => exact wpAny_pyIter_list hl h
theorem ObX.push {b : Bool} {h : Heap} {l : Addr} {its : Array Value} (x : ObX b h l its) (o : Obj) : ObX b (h.push o) l its := by
  cases b with
  | true => exact Heap.IsTuple.push x o
  | false => exact Heap.IsList.push x o
theorem ObX.obj {b : Bool} {h : Heap} {l : Addr} {its : Array Value} (x : ObX b h l its) : ∃ o, h.get? l = some o := by
  cases b <;> (obtain ⟨o, e, _⟩ := x; exact ⟨o, e⟩)
section
variable {X : Cx} {pins : List (Addr × Obj)} {σ : L2.St} {H : Hp} {s : Shared} {a : Addr} {xs : List V}
theorem invX (I : Inv X pins σ H s) {b : Bool} (h : SqX X.K b H a xs) : ∃ its : List Value, Vals xs its ∧ ObX b s.heap a its.toArray ∧ a < s.heap.objs.size := by
  cases b with
  | true => obtain ⟨its, r, p, _⟩ := I.tuple h; exact ⟨its, r, p, p.lt⟩
  | false => obtain ⟨its, r, p, _⟩ := I.list h; exact ⟨its, r, p.isList, p.lt⟩
theorem injX (I : Inv X pins σ H s) {b : Bool} {ys : List V} (h : SqX X.K b H a xs) (h' : SqX X.K b H a ys) : xs = ys := by
  cases b with
  | true => exact I.tuple_inj h h'
  | false => exact I.list_inj h h'
/-- an item of what is gone through, read where the heap stands -/
theorem itemX (I : Inv X pins σ H s) {b : Bool} {x : V} {i : Nat} (h : SqX X.K b H a xs) (e : xs[i]? = some x) :
    ∃ its : List Value, ∃ u, ObX b s.heap a its.toArray ∧ i < its.toArray.size ∧ its.toArray[i]? = some u ∧ RelV x u := by
  obtain ⟨its, rv, ob, _⟩ := invX I h
  obtain ⟨u, hu, ru⟩ := rv.get e
  refine ⟨its, u, ob, ?_, by simpa using hu, ru⟩
  rw [List.size_toArray, ← rv.length]
  exact (List.getElem?_eq_some_iff.mp e).1
theorem sizeX (I : Inv X pins σ H s) {b : Bool} (h : SqX X.K b H a xs) : ∃ its : List Value, ObX b s.heap a its.toArray ∧ its.toArray.size = xs.length := by
  obtain ⟨its, rv, ob, _⟩ := invX I h
  exact ⟨its, ob, by rw [List.size_toArray, ← rv.length]⟩
/-- a new pair where the heap ends -/
theorem pairNew {x y : V} {u v : Value} {h : Heap} {p : Addr} (rx : RelV x u) (ry : RelV y v) (e : h.get? p = some { cls := .type "tuple", data := .seq #[u, v] }) : ObjOk X.prog X.w (upd H p (.tup [x, y])) h p (.tup [x, y]) :=
  ⟨by show 2 ≤ sizeLine; decide, [u, v], .cons rx (.cons ry .nil), ⟨_, e, rfl, _, rfl⟩⟩
end
/-! ### enumerate -/
def IteX (K : PySem.W.Frag) (b : Bool) (a : Addr) : It :=
  ⟨fun i H => ∃ (xs : List V) (x : V), SqX K b H a xs ∧ xs[i]? = some x, fun i H v H' => ∃ T0 x, v = .ref T0 ∧ H T0 = none ∧ H' = upd H T0 (.tup [.int (i : Nat), x]) ∧ ∀ xs, SqX K b H a xs → xs[i]? = some x, fun i H => ∃ xs : List V, SqX K b H a xs ∧ xs.length = i⟩
def EnSt (b : Bool) (a e it : Addr) (i : Nat) (h : Heap) : Prop := (∃ old, IsEnum h e it ((i : Nat) : Int) old) ∧ ItX b h it a i
theorem en_obj {b : Bool} {a e it : Addr} {i : Nat} {h : Heap} (st : EnSt b a e it i h) : ∀ c ∈ [e, it], ∃ o, h.get? c = some o ∧ ∀ v, o.data ≠ .cell v := fun c hc => by
  simp only [List.mem_cons, List.not_mem_nil, or_false] at hc
  rcases hc with rfl | rfl
  · obtain ⟨_, q⟩ := st.1
    exact ⟨_, q, fun v z => nomatch z⟩
  · exact st.2.obj
theorem turn_enumX {P : Program} {w : World} {K : PySem.W.Frag} {elts : List Expr} {kk : Nat} {tpos : Pos} (b : Bool) (a e it : Addr) (hal : a ≠ it) (hae : a ≠ e) (hne : e ≠ it) :
    Turn P w K (.Tuple elts kk tpos) (IteX K b a) [e, it] e (EnSt b a e it) where
  mem := List.mem_cons_self ..
  obj := fun i h st => en_obj st
  keep := fun i h h' st k => ⟨st.1.imp fun old q => k e (List.mem_cons_self ..) _ q, st.2.at fun o q => k it (List.mem_cons_of_mem _ (List.mem_cons_self ..)) o q⟩
  item := fun X hP hw hK hc i pins s σ H E I hf st hg => by
    subst hP hw hK
    have apart : e ∉ [it, a] := fun m => by simp only [List.mem_cons, List.not_mem_nil, or_false] at m; exact m.elim hne (fun z => hae z.symm)
    obtain ⟨xs, x, hq, hx⟩ := hg
    obtain ⟨its, u, ob, lt, hu, ru⟩ := itemX I hq hx
    obtain ⟨⟨old, en⟩, iter⟩ := id st
    have D := drawX (prog := X.prog) (w := X.w) (A := X.A.in1) (by first | exact I.ok.hd hc | (simp; exact I.ok.hd hc)) b it a hal its.toArray
    refine wpAny_pyNext_enum_itemD D en ⟨iter, ob⟩ lt hne apart fun u2 h1 t1 q2 out st1 pair _ k1 => ⟨_, rfl, ?_⟩
    obtain rfl : u = u2 := Option.some.inj (hu.symm.trans q2)
    refine wpAny_letOwnedTupleGo_enum (s := { s with heap := h1, toks := t1 + 1 }) out fun h2 en2 same => ?_
    have far : ∀ c ∈ [e, it], c < s.heap.objs.size := fun c hc => by
      obtain ⟨o, q, _⟩ := en_obj st c hc
      exact Heap.lt_size q
    have pair2 := (same.2 _ (Nat.ne_of_gt (far e (List.mem_cons_self ..)))).trans pair
    have J := I.turnedNew (h' := h2) (t' := t1 + 1) (ch := [e, it]) (fun c o nb q => (same.2 c fun z => nb (by simp [z])).trans (k1 c o (fun z => nb (by simp [z])) (fun z => nb (by simp [z])) q)) hf (Nat.le_refl _) (pairNew (x := .int (i : Nat)) ⟨t1, rfl⟩ ru pair2)
    refine ⟨.ref s.heap.objs.size, _, J, rfl, ⟨_, x, rfl, I.hok.fresh (Nat.le_refl _), rfl, fun ys hy => by rw [injX I hy hq]; exact hx⟩, ⟨⟨u, ?_⟩, st1.1.at fun o q => (same.2 it hne.symm).trans q⟩, fun c hc => ?_⟩
    · have up : ((i + 1 : Nat) : Int) = (i : Int) + 1 := by omega
      rw [up]
      exact en2
    · rw [upd_ne (Nat.ne_of_lt (far c hc))]
      exact (hf c hc).1
  done := fun X hP hw hK hc i pins s σ H E I hf st hg => by
    subst hP hw hK
    obtain ⟨xs, hq, hl⟩ := hg
    obtain ⟨its, ob, sz⟩ := sizeX I hq
    obtain ⟨⟨old, en⟩, iter⟩ := st
    obtain rfl : i = its.toArray.size := by rw [sz, hl]
    obtain ⟨f0, f1, _, f3, f4, f5⟩ := hf it (List.mem_cons_of_mem _ (List.mem_cons_self ..))
    have D := drawX (prog := X.prog) (w := X.w) (A := X.A.in1) (by first | exact I.ok.hd hc | (simp; exact I.ok.hd hc)) b it a hal its.toArray
    exact wpAny_pyNext_enum_endD D en ⟨iter, ob⟩ fun h1 eb => ⟨rfl, I.turned (t' := s.toks) eb f0 f1 f3 f4 f5⟩
  self := fun A i s Q E st h => wpAny_pyIter_enum st.1.choose_spec h
def iEnumX (K : PySem.W.Frag) (ta : TA) : TI := fun σ H R => ta σ H fun vs H1 => ∃ (b : Bool) (a : Addr) (xs : List V), vs = [.ref a] ∧ SqX K b H1 a xs ∧ R (IteX K b a) H1
abbrev itObjX (b : Bool) (l : Addr) : Obj := { cls := .type (nmX b), data := .fields #[.ref l, .int 0 0] }
abbrev enHeap (b : Bool) (h : Heap) (l : Addr) : Heap := (h.push (itObjX b l)).push { cls := .type "enumerate", data := .fields #[.none, .bool false, .ref h.objs.size, rawInt 0, .none, .none] }
theorem en_at (b : Bool) (h : Heap) (l : Addr) : IsEnum (enHeap b h l) (h.objs.size + 1) h.objs.size 0 .none := by
  have z : (h.push (itObjX b l)).objs.size = h.objs.size + 1 := Heap.size_push ..
  rw [← z]
  exact Heap.get?_push_size _ rfl
theorem enumNew (b : Bool) (l : Addr) (its : Array Value) :
    Meets (Builtin.«enumerate.__new__» ⟨[.type "enumerate", .ref l], []⟩) (fun _ R z => ObX b z.heap l its ∧ R (.ok (.ret (.ref (z.heap.objs.size + 1)))) { z with heap := enHeap b z.heap l }) :=
  .of_wp fun prog w A R ⟨p0, p1, p2, p3, p4⟩ ⟨ob, h⟩ => by
    have sub := sub_enumerate
    have z : (p0.push (itObjX b l)).objs.size = p0.objs.size + 1 := Heap.size_push ..
    have goal : R (.ok (.ret (.ref (p0.push (itObjX b l)).objs.size))) ⟨enHeap b p0 l, p1, p2, p3, p4⟩ := by rw [z]; exact h
    have L : ObX b (Shared.heap ⟨p0, p1, p2, p3, p4⟩) l its := ob
    obtain ⟨o, ho⟩ : ∃ o, p0.get? l = some o := L.obj
    wp_walk using wpAny_loadPart' ho
    refine wpAny_stack_any fun _ => wpAny_pure ?_
    split
    · rename_i c _ _ _ _ _
      cases (c == Value.type "enumerate") <;> (wp_walk using pyIterX L; exact ⟨_, rfl, goal⟩)
    · wp_walk using pyIterX L
      exact ⟨_, rfl, goal⟩
theorem callEnumX {prog : Program} {w : World} {A : Around} {E : Value → Shared → Prop} {s : Shared} {b : Bool} {l : Addr} {its : Array Value} {Q : Value → Shared → Prop} (ob : ObX b s.heap l its) (h : Q (.ref (s.heap.objs.size + 1)) { s with heap := enHeap b s.heap l }) :
    wpAny (model prog w) A (call (.type "enumerate") [.ref l]) Q E s :=
  callType_new F.called_enumerate (by decide) (F.typeCall_enumerate_1 _) (F.newCall_enumerate_1 _) (fun obj => F.args_object_init_2 obj _) F.entry_enumerate_new (enumNew b l its) ⟨ob, ⟨_, en_at b s.heap l, rfl⟩, h⟩
theorem refs1 {a : Addr} {us : List Value} (r : Vals [V.ref a] us) : us = [.ref a] := by
  obtain _ | ⟨q, t⟩ := r
  cases q
  cases t
  rfl
theorem refs2 {a d : Addr} {us : List Value} (r : Vals [V.ref a, V.ref d] us) : us = [.ref a, .ref d] := by
  obtain _ | ⟨q, t⟩ := r
  cases q
  rw [refs1 t]
theorem fresh_fp {X : Cx} {pins : List (Addr × Obj)} {σ : L2.St} {H : Hp} {s : Shared} (I : Inv X pins σ H s) {fp : List Addr} (h : ∀ c ∈ fp, s.heap.objs.size ≤ c) : ∀ c ∈ fp, FpOk X pins H c := fun c hc => I.fpOk (h c hc) (I.hok.fresh (h c hc))
theorem pi_enumX {X : Cx} {e : Expr} {ta : TA} {p pos tpos : Pos} {elts : List Expr} {kk : Nat} (hg : Gl X "enumerate") (hm : X.mg "enumerate" = none) (ha : PA X [e] ta) (hs : starEach [e] X.env = [(false, eval e X.env)] := by rfl) :
    PI X (.Tuple elts kk tpos) (.Call (.Name "enumerate" p) [e] [] pos) (iEnumX X.K ta) := ⟨fun pins s σ H R I h => by
  refine Call_ (ld_blt I hg hm boot_enumerate (PyProof.Rows.callWith_type1 (thn (ha.run pos pins s σ H _ I h) fun us s1 ⟨vs, H1, I1, r1, b, a, xs, ex, hq, q⟩ => ?_) hs rfl))
  subst ex
  rw [refs1 r1]
  obtain ⟨its, rv, ob, la⟩ := invX I1 hq
  have gr : Grows s1.heap (enHeap b s1.heap a) := (Grows.push _).trans (Grows.push _)
  have en := en_at b s1.heap a
  refine callEnumX ob (wpAny_pyIter_enum en ?_)
  exact ⟨s1.heap.objs.size + 1, [s1.heap.objs.size + 1, s1.heap.objs.size], _, _, H1, rfl, I1.kept (t' := s1.toks) gr, turn_enumX b a (s1.heap.objs.size + 1) s1.heap.objs.size (Nat.ne_of_lt la) (Nat.ne_of_lt (Nat.lt_succ_of_lt la)) (Nat.succ_ne_self _),
    ⟨⟨.none, en⟩, (ItX.new b s1.heap a).grows (Grows.push _)⟩, fresh_fp I1 (fun c hc => by
      simp only [List.mem_cons, List.not_mem_nil, or_false] at hc
      exact hc.elim (fun z => z ▸ Nat.le_succ _) fun z => z ▸ Nat.le_refl _), q⟩⟩
/-! ### zip -/
def ItzX (K : PySem.W.Frag) (b c : Bool) (a d : Addr) : It :=
  ⟨fun i H => ∃ (xs ys : List V) (x y : V), SqX K b H a xs ∧ SqX K c H d ys ∧ xs[i]? = some x ∧ ys[i]? = some y,
    fun i H v H' => ∃ T0 x y, v = .ref T0 ∧ H T0 = none ∧ H' = upd H T0 (.tup [x, y]) ∧ (∀ xs, SqX K b H a xs → xs[i]? = some x) ∧ ∀ ys, SqX K c H d ys → ys[i]? = some y,
    fun i H => ∃ xs ys : List V, SqX K b H a xs ∧ SqX K c H d ys ∧ i = min xs.length ys.length⟩
/-- where the five objects of a zip begin, and where the two that it goes through lie -/
def ZpSt (b c : Bool) (a d n : Addr) (i : Nat) (h : Heap) : Prop := IsZip h (n + 4) (n + 2) (n + 3) .none ∧ IsPair h (n + 2) (.ref n) (.ref (n + 1)) ∧ (∃ x y, IsPair h (n + 3) x y) ∧ ItX b h n a i ∧ ItX c h (n + 1) d i
abbrev zpFp (n : Addr) : List Addr := [n + 4, n + 2, n + 3, n, n + 1]
theorem zp_sep {a d n : Addr} (la : a < n) (ld : d < n) : ZipSep2 (n + 4) (n + 2) (n + 3) n (n + 1) [n, a] [n + 1, d] := by
  have l1 : @LT.lt Nat instLTNat a n := la
  have l2 : @LT.lt Nat instLTNat d n := ld
  have k : ∀ {p q : Nat}, (p < q ∨ q < p) → ¬ p = q := fun h e => by omega
  constructor <;> simp only [List.mem_cons, List.not_mem_nil, or_false, true_or, not_or, ne_eq]
  all_goals first
    | exact k (by omega)
    | exact ⟨k (by omega), k (by omega)⟩
theorem zp_obj {b c : Bool} {a d n : Addr} {i : Nat} {h : Heap} (st : ZpSt b c a d n i h) : ∀ e ∈ zpFp n, ∃ o, h.get? e = some o ∧ ∀ v, o.data ≠ .cell v := fun e he => by
  obtain ⟨z1, z2, ⟨x, y, z3⟩, z4, z5⟩ := st
  simp only [List.mem_cons, List.not_mem_nil, or_false] at he
  rcases he with rfl | rfl | rfl | rfl | rfl
  · exact ⟨_, z1, fun v q => nomatch q⟩
  · exact ⟨_, z2, fun v q => nomatch q⟩
  · exact ⟨_, z3, fun v q => nomatch q⟩
  · exact z4.obj
  · exact z5.obj
theorem zp_in (n : Addr) : (n + 4 ∈ zpFp n ∧ n + 2 ∈ zpFp n ∧ n + 3 ∈ zpFp n) ∧ n ∈ zpFp n ∧ n + 1 ∈ zpFp n := by simp [zpFp]
theorem zp_keep {b c : Bool} {a d n : Addr} {i : Nat} {h h' : Heap} (st : ZpSt b c a d n i h) (k : ∀ e ∈ zpFp n, ∀ o, h.get? e = some o → h'.get? e = some o) : ZpSt b c a d n i h' := by
  obtain ⟨⟨m1, m2, m3⟩, m4, m5⟩ := zp_in n
  obtain ⟨z1, z2, ⟨x, y, z3⟩, z4, z5⟩ := st
  exact ⟨k _ m1 _ z1, k _ m2 _ z2, ⟨x, y, k _ m3 _ z3⟩, z4.at (k _ m4), z5.at (k _ m5)⟩
theorem zp_out {n c : Addr} (h : c ∉ zpFp n) : c ≠ n + 4 ∧ c ≠ n + 3 ∧ c ≠ n ∧ c ≠ n + 1 := by
  obtain ⟨⟨m1, m2, m3⟩, m4, m5⟩ := zp_in n
  exact ⟨fun z => h (z ▸ m1), fun z => h (z ▸ m3), fun z => h (z ▸ m4), fun z => h (z ▸ m5)⟩
theorem turn_zipX {P : Program} {w : World} {K : PySem.W.Frag} {elts : List Expr} {kk : Nat} {tpos : Pos} {b c : Bool} {a d n : Addr} (la : a < n) (ld : d < n) :
    Turn P w K (.Tuple elts kk tpos) (ItzX K b c a d) (zpFp n) (n + 4) (ZpSt b c a d n) where
  mem := (zp_in n).1.1
  obj := fun i h st => zp_obj st
  keep := fun i h h' st k => zp_keep st k
  item := fun X hP hw hK hc i pins s σ H E I hf st hg => by
    subst hP hw hK
    obtain ⟨xs, ys, x, y, hqx, hqy, hx, hy⟩ := hg
    obtain ⟨its, u, ob, lt, hu, ru⟩ := itemX I hqx hx
    obtain ⟨its2, u2, ob2, lt2, hu2, ru2⟩ := itemX I hqy hy
    have far : ∀ e ∈ zpFp n, e < s.heap.objs.size := fun e he => by
      obtain ⟨o, q, _⟩ := zp_obj st e he
      exact Heap.lt_size q
    obtain ⟨⟨m1, m2, m3⟩, m4, m5⟩ := zp_in n
    have hh : X.A.in1.handled = none := by first | exact I.ok.hd hc | (simp; exact I.ok.hd hc)
    obtain ⟨z1, z2, ⟨x0, y0, z3⟩, z4, z5⟩ := id st
    refine wpAny_pyNext_zipD2_item (zp_sep la ld) (drawX hh b n a (Nat.ne_of_lt la) its.toArray) (drawX hh c (n + 1) d (Nat.ne_of_lt (Nat.lt_succ_of_lt ld)) its2.toArray) z1 z2 z3 ⟨z4, ob⟩ ⟨z5, ob2⟩ lt lt2 fun v v2 h1 t1 e1 e2 z1' z3' s1 s2 pair _ k1 => ⟨_, rfl, ?_⟩
    obtain rfl : u = v := Option.some.inj (hu.symm.trans e1)
    obtain rfl : u2 = v2 := Option.some.inj (hu2.symm.trans e2)
    refine wpAny_letOwnedTupleGo_zip (s := { s with heap := h1, toks := t1 }) z1' fun h2 z1'' same => ?_
    have ne4 : ∀ {e : Addr}, e ≠ n + 4 → h2.get? e = h1.get? e := fun q => same.2 _ q
    have pair2 := (ne4 (Nat.ne_of_gt (far _ m1))).trans pair
    have J := I.turnedNew (h' := h2) (t' := t1) (ch := zpFp n) (fun e o nb q => by
      obtain ⟨n4, n3, n0, n1⟩ := zp_out nb
      exact (ne4 n4).trans (k1 e o n4 n3 n0 n1 q)) hf (Nat.le_refl _) (pairNew ru ru2 pair2)
    have d1 : (n + 2 : Addr) ≠ n + 4 := (zp_sep la ld).TIz
    refine ⟨.ref s.heap.objs.size, _, J, rfl, ⟨_, x, y, rfl, I.hok.fresh (Nat.le_refl _), rfl, fun l hl => by rw [injX I hl hqx]; exact hx, fun l hl => by rw [injX I hl hqy]; exact hy⟩, ⟨z1'', ?_, ⟨u, u2, ?_⟩, ?_, ?_⟩, fun e he => ?_⟩
    · exact (ne4 d1).trans (k1 _ _ d1 (zp_sep la ld).TITO (zp_sep la ld).TIi1 (zp_sep la ld).TIi2 z2)
    · exact (ne4 (zp_sep la ld).TOz).trans z3'
    · exact s1.1.at fun o q => (ne4 (zp_sep la ld).zi1.symm).trans q
    · exact s2.1.at fun o q => (ne4 (zp_sep la ld).zi2.symm).trans q
    · rw [upd_ne (Nat.ne_of_lt (far e he))]
      exact (hf e he).1
  done := fun X hP hw hK hc i pins s σ H E I hf st hg => by
    subst hP hw hK
    obtain ⟨xs, ys, hqx, hqy, hend⟩ := hg
    obtain ⟨its, ob, sz⟩ := sizeX I hqx
    obtain ⟨its2, ob2, sz2⟩ := sizeX I hqy
    have hh : X.A.in1.handled = none := by first | exact I.ok.hd hc | (simp; exact I.ok.hd hc)
    obtain ⟨z1, z2, ⟨x0, y0, z3⟩, z4, z5⟩ := id st
    refine wpAny_pyNext_zipD2_end (i := i) (zp_sep la ld) (drawX hh b n a (Nat.ne_of_lt la) its.toArray) (drawX hh c (n + 1) d (Nat.ne_of_lt (Nat.lt_succ_of_lt ld)) its2.toArray) z1 z2 z3 ⟨z4, ob⟩ ⟨z5, ob2⟩ (by omega) (by omega) (by omega) fun h1 t1 k1 => ⟨rfl, ?_⟩
    exact I.turnedL (t' := t1) (ch := zpFp n) (fun e o nb q => by
      obtain ⟨n4, n3, n0, n1⟩ := zp_out nb
      exact k1 e o n4 n3 n0 n1 q) hf
  self := fun A i s Q E st h => wpAny_pyIter_zip st.1 h
abbrev zH1 (b : Bool) (h : Heap) (l1 : Addr) : Heap := h.push (itObjX b l1)
abbrev zH2 (b c : Bool) (h : Heap) (l1 l2 : Addr) : Heap := (zH1 b h l1).push (itObjX c l2)
abbrev zH3 (b c : Bool) (h : Heap) (l1 l2 : Addr) : Heap := (zH2 b c h l1 l2).push { cls := .type "tuple", data := .seq #[.ref h.objs.size, .ref (h.objs.size + 1)] }
abbrev zH4 (b c : Bool) (h : Heap) (l1 l2 : Addr) : Heap := (zH3 b c h l1 l2).push { cls := .type "tuple", data := .seq #[.none, .none] }
abbrev zH5 (b c : Bool) (h : Heap) (l1 l2 : Addr) : Heap := (zH4 b c h l1 l2).push { cls := .type "zip", data := .fields #[.none, .bool false, .bool false, .ref (h.objs.size + 2), .ref (h.objs.size + 3)] }
theorem zH_sizes (b c : Bool) (h : Heap) (l1 l2 : Addr) : (zH1 b h l1).objs.size = h.objs.size + 1 ∧ (zH2 b c h l1 l2).objs.size = h.objs.size + 2 ∧ (zH3 b c h l1 l2).objs.size = h.objs.size + 3 ∧ (zH4 b c h l1 l2).objs.size = h.objs.size + 4 := by
  simp only [Heap.size_push, Nat.add_assoc]
  trivial
theorem zH_at (b c : Bool) (h : Heap) (l1 l2 : Addr) : ZpSt b c l1 l2 h.objs.size 0 (zH5 b c h l1 l2) := by
  obtain ⟨e1, e2, e3, e4⟩ := zH_sizes b c h l1 l2
  refine ⟨?_, ?_, ⟨.none, .none, ?_⟩, ?_, ?_⟩
  · rw [← e4]; exact Heap.get?_push_size _ rfl
  · rw [← e2]; exact Grows.push _ _ _ (Grows.push _ _ _ (Heap.get?_push_size _ rfl))
  · rw [← e3]; exact Grows.push _ _ _ (Heap.get?_push_size _ rfl)
  · exact (ItX.new b h l1).grows ((Grows.push _).trans ((Grows.push _).trans ((Grows.push _).trans (Grows.push _))))
  · rw [← e1]; exact (ItX.new c _ l2).grows ((Grows.push _).trans ((Grows.push _).trans (Grows.push _)))
theorem zH_grows (b c : Bool) (h : Heap) (l1 l2 : Addr) : Grows h (zH5 b c h l1 l2) := (Grows.push _).trans ((Grows.push _).trans ((Grows.push _).trans ((Grows.push _).trans (Grows.push _))))
theorem zipNew (b c : Bool) (l1 l2 : Addr) (xs ys : Array Value) :
    Meets (Builtin.«zip.__new__» ⟨[.type "zip", .ref l1, .ref l2], []⟩) (fun _ R z => ObX b z.heap l1 xs ∧ ObX c z.heap l2 ys ∧ R (.ok (.ret (.ref (z.heap.objs.size + 4)))) { z with heap := zH5 b c z.heap l1 l2 }) :=
  .of_wp fun prog w A R ⟨p0, p1, p2, p3, p4⟩ ⟨ob, ob2, h⟩ => by
    have sub := sub_zip
    obtain ⟨e1, e2, e3, e4⟩ := zH_sizes b c p0 l1 l2
    have L1 : ObX b (Shared.heap ⟨p0, p1, p2, p3, p4⟩) l1 xs := ob
    have L2 : ObX c (Shared.heap ⟨zH1 b p0 l1, p1, p2, p3, p4⟩) l2 ys := ob2.push _
    have goal : R (.ok (.ret (.ref (((((zH2 b c p0 l1 l2).push { cls := .type "tuple", data := .seq #[.ref p0.objs.size, .ref (zH1 b p0 l1).objs.size] }).push { cls := .type "tuple", data := .seq #[.none, .none] }).objs.size)))))
        ⟨(((zH2 b c p0 l1 l2).push { cls := .type "tuple", data := .seq #[.ref p0.objs.size, .ref (zH1 b p0 l1).objs.size] }).push { cls := .type "tuple", data := .seq #[.none, .none] }).push { cls := .type "zip", data := .fields #[.none, .bool false, .bool false, .ref (zH2 b c p0 l1 l2).objs.size, .ref ((zH2 b c p0 l1 l2).push { cls := .type "tuple", data := .seq #[.ref p0.objs.size, .ref (zH1 b p0 l1).objs.size] }).objs.size] }, p1, p2, p3, p4⟩ := by
      rw [e1]
      show R (.ok (.ret (.ref (zH4 b c p0 l1 l2).objs.size))) ⟨(zH4 b c p0 l1 l2).push { cls := .type "zip", data := .fields #[.none, .bool false, .bool false, .ref (zH2 b c p0 l1 l2).objs.size, .ref (zH3 b c p0 l1 l2).objs.size] }, p1, p2, p3, p4⟩
      rw [e2, e3, e4]
      exact h
    wp_walk using pyIterX L1, pyIterX L2
    exact ⟨_, rfl, goal⟩
theorem callZipX {prog : Program} {w : World} {A : Around} {E : Value → Shared → Prop} {s : Shared} {b c : Bool} {l1 l2 : Addr} {xs ys : Array Value} {Q : Value → Shared → Prop} (ob : ObX b s.heap l1 xs) (ob2 : ObX c s.heap l2 ys) (h : Q (.ref (s.heap.objs.size + 4)) { s with heap := zH5 b c s.heap l1 l2 }) :
    wpAny (model prog w) A (call (.type "zip") [.ref l1, .ref l2]) Q E s :=
  callType_new F.called_zip (by decide) (F.typeCall_zip_2 _ _) (F.newCall_zip_2 _ _) (fun obj => F.args_object_init_3 obj _ _) F.entry_zip_new (zipNew b c l1 l2 xs ys) ⟨ob, ob2, ⟨_, (zH_at b c s.heap l1 l2).1, rfl⟩, h⟩
def iZipX (K : PySem.W.Frag) (ta : TA) : TI := fun σ H R => ta σ H fun vs H1 => ∃ (b c : Bool) (a d : Addr) (xs ys : List V), vs = [.ref a, .ref d] ∧ SqX K b H1 a xs ∧ SqX K c H1 d ys ∧ R (ItzX K b c a d) H1
theorem pi_zipX {X : Cx} {e e2 : Expr} {ta : TA} {p pos tpos : Pos} {elts : List Expr} {kk : Nat} (hg : Gl X "zip") (hm : X.mg "zip" = none) (ha : PA X [e, e2] ta) (hs : starEach [e, e2] X.env = (false, eval e X.env) :: starEach [e2] X.env := by rfl) (hpl : (backTo pos (starEach [e2] X.env)).any (·.1) = false := by rfl) :
    PI X (.Tuple elts kk tpos) (.Call (.Name "zip" p) [e, e2] [] pos) (iZipX X.K ta) := ⟨fun pins s σ H R I h => by
  refine Call_ (ld_blt I hg hm PyProof.Rows.boot_zip (PyProof.Rows.callWith_type1 (thn (ha.run pos pins s σ H _ I h) fun us s1 ⟨vs, H1, I1, r1, b, c, a, d, xs, ys, ex, hqx, hqy, q⟩ => ?_) hs hpl))
  subst ex
  rw [refs2 r1]
  obtain ⟨its, rv, ob, la⟩ := invX I1 hqx
  obtain ⟨its2, rv2, ob2, ld⟩ := invX I1 hqy
  have at0 := zH_at b c s1.heap a d
  refine callZipX ob ob2 (wpAny_pyIter_zip at0.1 ?_)
  exact ⟨_, _, _, _, H1, rfl, I1.kept (t' := s1.toks) (zH_grows b c s1.heap a d), turn_zipX la ld, at0, fresh_fp I1 (fun e he => by
    simp only [List.mem_cons, List.not_mem_nil, or_false] at he
    rcases he with rfl | rfl | rfl | rfl | rfl <;> first | exact Nat.le_refl _ | exact Nat.le_add_right _ _), q⟩⟩
end Mi
set_option Elab.async false
set_option linter.all false
set_option autoImplicit false
set_option maxRecDepth 100000
set_option maxHeartbeats 2000000
namespace Mi
open PySem PySem.Spec PyProof.Rows L2
variable [TbC]
/-! ### the rules -/
section
variable {X : Cx} {g : G} {W : WX}
theorem rp_seq {K : PySem.W.Frag} {H1 : Hp} {ad1 : Ad} {x : V} {t : T} {ts : List T} (r : Rp H1 ad1 x t) (h : seqT t = some ts) :
    ∃ (b : Bool) (a : Addr) (xs : List V), x = .ref a ∧ SqX K b H1 a xs ∧ ∀ H ad, Ex H1 ad1 H ad → ∃ xs, SqX K b H a xs ∧ Rps H ad xs ts := by
  cases t <;> first | cases h | skip
  · obtain ⟨a, xs, rfl, h2, h3, h4⟩ := r
    exact ⟨false, a, xs, rfl, SqL.of h2, fun H ad e => ⟨xs, SqL.of (e.keep a _ h2 h3 (fun _ z => by cases z)), Rps.mono e _ _ h4⟩⟩
  · obtain ⟨a, xs, rfl, h2, h3, h4⟩ := r
    exact ⟨true, a, xs, rfl, SqT.of h2, fun H ad e => ⟨xs, SqT.of (e.keep a _ h2 h3 (fun _ z => by cases z)), Rps.mono e _ _ h4⟩⟩
def enumT (ts : List T) : List T := (List.range ts.length).map fun i => .tuple [.int (i : Nat), ts[i]?.getD .none]
theorem enumT_get {ts : List T} {i : Nat} {t : T} (h : (enumT ts)[i]? = some t) : ∃ u, ts[i]? = some u ∧ t = .tuple [.int (i : Nat), u] := by
  unfold enumT at h
  rw [List.getElem?_map] at h
  cases z : (List.range ts.length)[i]? with
  | none => rw [z] at h; cases h
  | some j =>
    rw [z] at h
    cases h
    obtain ⟨h1, h2⟩ := List.getElem?_eq_some_iff.mp z
    rw [List.length_range] at h1
    rw [List.getElem_range] at h2
    subst h2
    refine ⟨ts[i], List.getElem?_eq_getElem h1, ?_⟩
    simp [h1]
theorem enumT_len {ts : List T} : (enumT ts).length = ts.length := by simp [enumT]
theorem enum_ok {K : PySem.W.Frag} {b : Bool} {a : Addr} {H0 : Hp} {ad0 : Ad} {ts : List T} (h : ∀ H ad, Ex H0 ad0 H ad → ∃ xs, SqX K b H a xs ∧ Rps H ad xs ts) : ItOk (IteX K b a) H0 ad0 (enumT ts, none) := by
  refine ⟨fun n H ad cs t e c l q => ?_, fun n H ad cs e c l q => ?_⟩
  · obtain ⟨xs, h1, h2⟩ := h H ad e
    obtain ⟨u, q1, rfl⟩ := enumT_get q
    obtain ⟨x, q2, q3⟩ := h2.get q1
    refine ⟨⟨xs, x, h1, q2⟩, fun y H' ⟨T0, x', y1, y2, y3, y4⟩ => ?_⟩
    subst y1 y3
    have := y4 xs h1
    rw [q2] at this
    cases this
    have sm : Same H (upd H T0 (.tup [.int (n : Nat), x])) := Same.new y2
    exact ⟨sm, T0, _, rfl, upd_same, fun m => c.live m y2, _, _, rfl, rfl, _, _, rfl, Rp.mono (Ex.same sm) _ _ q3, rfl⟩
  · obtain ⟨xs, h1, h2⟩ := h H ad e
    exact ⟨xs, h1, by rw [h2.len, ← q]; exact enumT_len.symm⟩
def dEnum (a : D SV) : DI := fun sl cs => (a sl cs).bind fun r c => match take1 r c with
  | some (t, c2) => (match seqT t with
    | some ts => .ok (enumT ts, none) c2
    | none => .bad)
  | none => .bad
theorem m_enum {tpos p pos : Pos} {elts : List Expr} {kk : Nat} {e : Expr} {d : D SV} (hg : Gl X "enumerate") (hm : X.mg "enumerate" = none) (h : ME g W X e d) (hs : starEach [e] X.env = [(false, eval e X.env)] := by rfl) :
    MI g W X (.Tuple elts kk tpos) (.Call (.Name "enumerate" p) [e] [] pos) (dEnum d) := by
  refine PI.cons (pi_enumX hg hm (pa_cons h pa_nil hs) hs) fun σ H R hw => ?_
  obtain ⟨sl, cs, ad, S, C, A⟩ := hw
  refine ⟨sl, cs, ad, S, C, Aft.bind (rel := relE g) A fun x r c1 H1 ad1 e1 C1 s1 A1 => ?_⟩
  cases z : take1 r c1 with
  | none => rw [z] at A1; exact A1.elim
  | some p =>
    obtain ⟨t, c2⟩ := p
    rw [z] at A1
    simp only at A1
    obtain ⟨ad2, e2, C2, r2⟩ := take1_ok C1 s1 z
    cases z2 : seqT t with
    | none => rw [z2] at A1; exact A1.elim
    | some ts =>
      rw [z2] at A1
      obtain ⟨b, a, xs, rfl, q1, q2⟩ := rp_seq (K := X.K) r2 z2
      exact ⟨b, a, xs, rfl, q1, A1 _ H1 ad2 e2 C2 (enum_ok q2)⟩
def zipT (ts us : List T) : List T := (ts.zip us).map fun p => .tuple [p.1, p.2]
theorem zipT_get {ts us : List T} {i : Nat} {t : T} (h : (zipT ts us)[i]? = some t) : ∃ u v, ts[i]? = some u ∧ us[i]? = some v ∧ t = .tuple [u, v] := by
  unfold zipT at h
  rw [List.getElem?_map] at h
  cases z : (ts.zip us)[i]? with
  | none => rw [z] at h; cases h
  | some j =>
    rw [z] at h
    cases h
    obtain ⟨q1, q2⟩ := List.getElem?_zip_eq_some.mp z
    exact ⟨_, _, q1, q2, rfl⟩
theorem zip_ok {K : PySem.W.Frag} {b b2 : Bool} {a a2 : Addr} {H0 : Hp} {ad0 : Ad} {ts us : List T} (h : ∀ H ad, Ex H0 ad0 H ad → ∃ xs, SqX K b H a xs ∧ Rps H ad xs ts) (k : ∀ H ad, Ex H0 ad0 H ad → ∃ xs, SqX K b2 H a2 xs ∧ Rps H ad xs us) : ItOk (ItzX K b b2 a a2) H0 ad0 (zipT ts us, none) := by
  refine ⟨fun n H ad cs t e c l q => ?_, fun n H ad cs e c l q => ?_⟩
  · obtain ⟨xs, h1, h2⟩ := h H ad e
    obtain ⟨ys, k1, k2⟩ := k H ad e
    obtain ⟨u, v, q1, q1', rfl⟩ := zipT_get q
    obtain ⟨x, q2, q3⟩ := h2.get q1
    obtain ⟨y, q4, q5⟩ := k2.get q1'
    refine ⟨⟨xs, ys, x, y, h1, k1, q2, q4⟩, fun z H' ⟨T0, x', y', y1, y2, y3, y4, y5⟩ => ?_⟩
    subst y1 y3
    have := y4 xs h1
    rw [q2] at this
    cases this
    have := y5 ys k1
    rw [q4] at this
    cases this
    have sm : Same H (upd H T0 (.tup [x, y])) := Same.new y2
    exact ⟨sm, T0, _, rfl, upd_same, fun m => c.live m y2, _, _, rfl, Rp.mono (Ex.same sm) _ _ q3, _, _, rfl, Rp.mono (Ex.same sm) _ _ q5, rfl⟩
  · obtain ⟨xs, h1, h2⟩ := h H ad e
    obtain ⟨ys, k1, k2⟩ := k H ad e
    refine ⟨xs, ys, h1, k1, ?_⟩
    rw [h2.len, k2.len, ← q]
    simp [zipT]
def dZip (a b : D SV) : DI := fun sl cs => (a sl cs).bind fun r c => (b sl c).bind fun r2 c2 => match take1 r c2 with
  | some (t, c3) => (match take1 r2 c3 with
    | some (t2, c4) => (match seqT t, seqT t2 with
      | some ts, some us => .ok (zipT ts us, none) c4
      | _, _ => .bad)
    | none => .bad)
  | none => .bad
theorem m_zip {tpos p pos : Pos} {elts : List Expr} {kk : Nat} {e e2 : Expr} {d k : D SV} (hg : Gl X "zip") (hm : X.mg "zip" = none) (h : ME g W X e d) (h2 : ME g W X e2 k) (hs : starEach [e, e2] X.env = (false, eval e X.env) :: starEach [e2] X.env := by rfl) (hs2 : starEach [e2] X.env = [(false, eval e2 X.env)] := by rfl) (hpl : (backTo pos (starEach [e2] X.env)).any (·.1) = false := by rfl) :
    MI g W X (.Tuple elts kk tpos) (.Call (.Name "zip" p) [e, e2] [] pos) (dZip d k) := by
  refine PI.cons (pi_zipX hg hm (pa_cons h (pa_cons h2 pa_nil hs2) hs) hs hpl) fun σ H R hw => ?_
  obtain ⟨sl, cs, ad, S, C, A⟩ := hw
  refine ⟨sl, cs, ad, S, C, Aft.bind (rel := relE g) A fun x r c1 H1 ad1 e1 C1 s1 A1 => ?_⟩
  refine ⟨sl, c1, ad1, S.mono e1, C1, Aft.bind (rel := relE g) A1 fun y r2 c2 H2 ad2 e2 C2 s2 A2 => ?_⟩
  cases z : take1 r c2 with
  | none => rw [z] at A2; exact A2.elim
  | some p =>
    obtain ⟨t, c3⟩ := p
    rw [z] at A2
    simp only at A2
    obtain ⟨ad3, e3, C3, r3⟩ := take1_ok C2 (s1.mono e2) z
    cases z2 : take1 r2 c3 with
    | none => rw [z2] at A2; exact A2.elim
    | some p =>
      obtain ⟨t2, c4⟩ := p
      rw [z2] at A2
      simp only at A2
      obtain ⟨ad4, e4, C4, r4⟩ := take1_ok C3 (s2.mono e3) z2
      have r3 := Rp.mono e4 _ _ r3
      split at A2
      · rename_i ts us q1 q2
        obtain ⟨b, a, xs, rfl, p1, p2⟩ := rp_seq (K := X.K) r3 q1
        obtain ⟨b', a', xs', rfl, p3, p4⟩ := rp_seq (K := X.K) r4 q2
        exact ⟨b, b', a, a', xs, xs', rfl, p1, p3, A2 _ H2 ad4 (e3.trans e4) C4 (zip_ok p2 p4)⟩
      · exact A2.elim
end
end Mi
set_option Elab.async false
set_option linter.all false
set_option autoImplicit false
set_option maxRecDepth 100000
set_option maxHeartbeats 4000000
namespace Mi
open PySem PySem.Spec PyProof.Rows L2
variable [TbC]
/-! ### comprehensions of any number of clauses: one turn is a step with something done at its end -/
def cTests (ifs : List Expr) (env : Env) : Sem Bool := forIn ifs true fun c r => if r = true then (isTrue c env (eval c env) >>= fun ok => pure (ForInStep.yield ok)) else pure (ForInStep.yield r)
def cStep (t : Expr) (ifs : List Expr) (env : Env) (it : Value) (act : Sem Unit) (v : Value) : Sem Unit :=
  letOwnedTupleGo t it v >>= fun _ => assign t env v >>= fun _ => cTests ifs env >>= fun ok => if ok = true then act else pure ()
/-- the last clause's end: the item goes into the list -/
def actEnd (elt : Expr) (acc : Value) (env : Env) : Sem Unit := eval elt env >>= fun x => call (.builtin "list.append") [acc, x] >>= fun _ => pure ()
/-- another clause's end: the next one runs -/
def actNext (E : Expr) (i1 : Expr) (k : Nat) (acc : Value) (env : Env) : Sem Unit :=
  eval i1 env >>= fun x => standAt i1.pos >>= fun _ => foldedSetIterable i1 env x >>= fun x => holding [x] (pyIter x) >>= fun it => runOwn (.compStart E k it acc env) env >>= fun _ => pure ()
section
variable {elt t0 i0 t1 i1 : Expr} {ifs0 ifs1 : List Expr} {gens : List Comprehension} {k : Nat} {scope : Scope} {pos : Pos} {it acc : Value} {env : Env}
theorem turn_end (h : gens[k]? = some ⟨t0, i0, ifs0, 0⟩) (h1 : gens[k + 1]? = none) :
    compTurn (.ListComp elt gens scope pos) k it acc env = (standAt i0.pos >>= fun _ => pyNext it >>= fun r => match r with
      | none => pure (.done .next)
      | some v => cStep t0 ifs0 env it (actEnd elt acc env) v >>= fun _ => again (.compLoop (.ListComp elt gens scope pos) k it acc env)) := by
  unfold compTurn cStep cTests actEnd
  simp only [h, h1, bind_assoc, bne_self_eq_false, Bool.false_eq_true, if_false]
  refine congrArg _ (funext fun _ => congrArg _ (funext fun r => ?_))
  cases r with
  | none => rfl
  | some v =>
    simp only []
    refine congrArg _ (funext fun _ => congrArg _ (funext fun _ => congrArg _ (funext fun ok => ?_)))
    cases ok <;> simp
theorem turn_next (h : gens[k]? = some ⟨t0, i0, ifs0, 0⟩) (h1 : gens[k + 1]? = some ⟨t1, i1, ifs1, 0⟩) :
    compTurn (.ListComp elt gens scope pos) k it acc env = (standAt i0.pos >>= fun _ => pyNext it >>= fun r => match r with
      | none => pure (.done .next)
      | some v => cStep t0 ifs0 env it (actNext (.ListComp elt gens scope pos) i1 (k + 1) acc env) v >>= fun _ => again (.compLoop (.ListComp elt gens scope pos) k it acc env)) := by
  unfold compTurn cStep cTests actNext
  simp only [h, h1, bind_assoc, bne_self_eq_false, Bool.false_eq_true, if_false]
  refine congrArg _ (funext fun _ => congrArg _ (funext fun r => ?_))
  cases r with
  | none => rfl
  | some v =>
    simp only []
    refine congrArg _ (funext fun _ => congrArg _ (funext fun _ => congrArg _ (funext fun ok => ?_)))
    cases ok <;> simp
end
section
variable {prog : Program} {w : World} {A : Around} {R : Result → Shared → Prop} {s : Shared} {elt t0 i0 t1 i1 : Expr} {ifs0 ifs1 : List Expr} {gens : List Comprehension} {k : Nat} {scope : Scope} {pos : Pos} {it acc : Value} {env : Env}
/-- nothing is raised -/
abbrev noE : Value → Shared → Prop := fun _ _ => False
theorem calmly {α : Type} {t : Sem α} {Q Q' : α → Shared → Prop} {E E' : Value → Shared → Prop} (hx : E' = noE) (h : wpAny (model prog w) A t Q E' s) (hQ : ∀ a s, Q a s → Q' a s) : wpAny (model prog w) A t Q' E s :=
  wpAny_mono h hQ fun e s q => by subst hx; exact q.elim
/-- a clause's loop by what its turns do -/
theorem clause_walk {act : Sem Unit} (ht : compTurn (.ListComp elt gens scope pos) k it acc env = (standAt i0.pos >>= fun _ => pyNext it >>= fun r => match r with
      | none => pure (.done .next)
      | some v => cStep t0 ifs0 env it act v >>= fun _ => again (.compLoop (.ListComp elt gens scope pos) k it acc env))) (Iv : Nat → Shared → Prop)
    (step : ∀ n s, Iv n s → wpAny (model prog w) A (pyNext it) (fun r s1 => match r with
      | none => R (.ok .next) s1
      | some v => wpAny (model prog w) A (cStep t0 ifs0 env it act v) (fun _ s2 => ∃ m, m < n ∧ Iv m s2) noE s1) noE s) (n : Nat) (h : Iv n s) :
    codeAny (model prog w) A (.compLoop (.ListComp elt gens scope pos) k it acc env) R s := by
  refine codeAny_loop rfl Iv (fun n s hI => ?_) n h
  have goal : wpAny (model prog w) A (compTurn (.ListComp elt gens scope pos) k it acc env) (fun fin s' => match fin with
      | .done f => R (.ok f) s'
      | .again c' => c' = .compLoop (.ListComp elt gens scope pos) k it acc env ∧ ∃ m, m < n ∧ Iv m s') noE s := by
    rw [ht]
    refine wpAny_bind (wpAny_standAt (wpAny_bind (wpAny_mono (step n s hI) (fun r s1 q => ?_) fun _ _ z => z)))
    cases r with
    | none => exact wpAny_pure q
    | some v => exact wpAny_bind (wpAny_mono q (fun _ s2 z => wpAny_pure ⟨rfl, z⟩) fun _ _ z => z)
  have lift := wpAny_noted (env := env) (calmly (E := notedBy (model prog w) A env fun e s' => R (.error e) s') rfl goal fun _ _ z => z)
  exact lift
theorem start_clause (g0 : gens[k]? = some ⟨t0, i0, ifs0, 0⟩) (plain : codeAny (model prog w) A (.compLoop (.ListComp elt gens scope pos) k it acc env) R s)
    (again' : wpAny (model prog w) A (pyIter it) (fun j s' => codeAny (model prog w) A (.compLoop (.ListComp elt gens scope pos) k j acc env) R s') noE s) :
    codeAny (model prog w) A (.compStart (.ListComp elt gens scope pos) k it acc env) R s := by
  have goal : wpAny (model prog w) A (compStart (.ListComp elt gens scope pos) k it acc env) (fun fin s' => match fin with
      | .done f => R (.ok f) s'
      | .again c' => c'.quiet = true ∧ codeAny (model prog w) A c' R s') noE s := by
    have e : (clausesOf (.ListComp elt gens scope pos))[k]? = some ⟨t0, i0, ifs0, 0⟩ := g0
    unfold compStart
    simp only [e, Option.elim, bne_self_eq_false, Bool.false_eq_true, if_false]
    refine wpAny_bind (wpAny_askSetting (wpAny_ite_split (fun _ => wpAny_pure ⟨rfl, plain⟩) fun _ => ?_))
    exact wpAny_bind (wpAny_rule (wpAny_bind (wpAny_standAt (wpAny_bind (wpAny_mono again' (fun j s' q => wpAny_pure ⟨rfl, q⟩) fun _ _ z => z)))))
  exact codeAny_of_tree (wpAny_notedAt (calmly rfl goal fun _ _ z => z))
/-- the end of a clause that has another behind it -/
theorem act_next {n : Nat} {F : Shared → Prop} (hs : ∀ x, foldedSetIterable i1 env x = pure x)
    (h : wpAny (model prog w) A (eval i1 env) (fun x s1 => wpAny (model prog w) A (pyIter x) (fun j s2 => codeAny (model prog w) A (.compStart (.ListComp elt gens scope pos) n j acc env) (fun r s' => match r with
      | .ok _ => F s'
      | .error _ => False) s2) noE s1) noE s) : wpAny (model prog w) A (actNext (.ListComp elt gens scope pos) i1 n acc env) (fun _ s' => F s') noE s := by
  refine wpAny_bind (wpAny_mono h (fun x s1 q => ?_) fun _ _ z => z)
  refine wpAny_bind (wpAny_standAt (wpAny_bind (wpAny_of_eq (hs x) (wpAny_bind (wpAny_holding (wpAny_mono q (fun j s2 z => ?_) fun _ _ z => z))))))
  refine wpAny_bind (wpAny_runOwn ?_)
  rw [Around.mark_none]
  refine codeAny_mono z fun r s' y => ?_
  cases r with
  | ok f => exact wpAny_pure y
  | error e => exact y.elim
end
/-! ### what the clauses come to -/
structure Cl1 where
  tg : Expr
  iter : Expr
  ifs : List Expr
  wi : L2.TI
  g : TG
  tt : TT
  vs : List Nat
def Cl1.gen (c : Cl1) : Comprehension := ⟨c.tg, c.iter, c.ifs, 0⟩
def tTurn (c : Cl1) (inner : L2.St → Hp → (Hp → Prop) → Prop) (σ : L2.St) (Nx : Hp → Prop) (x : V) (H : Hp) : Prop :=
  c.g x (L2.wipe σ c.vs) H fun σ2 H2 => L2.wipe σ2 c.vs = L2.wipe σ c.vs ∧ c.tt σ2 H2 fun b H3 => if b = true then inner σ2 H3 Nx else Nx H3
def tLoop (c : Cl1) (inner : L2.St → Hp → (Hp → Prop) → Prop) (J : It) (σ : L2.St) (H1 : Hp) (Nx : Hp → Prop) : Prop :=
  ∃ P : Nat → Nat → Hp → Prop, (∃ m, P 0 m H1) ∧ ∀ i m H, P i m H → (J.stop i H ∧ Nx H) ∨ (J.go i H ∧ ∃ N : Hp → Prop, (∀ H', N H' → ∃ m', m' < m ∧ P (i + 1) m' H') ∧ ∀ x H', J.yld i H x H' → tTurn c inner σ N x H')
def tIn (te : TE) (D : Addr) : List Cl1 → L2.St → Hp → (Hp → Prop) → Prop
  | [], σ, H, Nx => te σ H fun y H1 => ∃ acc, H1 D = some (.lst acc) ∧ acc.length < sizeLine ∧ Nx (upd H1 D (.lst (acc ++ [y])))
  | c :: cs, σ, H, Nx => c.wi σ H fun J H1 => tLoop c (tIn te D cs) J σ H1 Nx
def tLcN (c : Cl1) (cs : List Cl1) (te : TE) : TE := fun σ H Q => c.wi σ H fun J H1 => ∀ D, H1 D = none → tLoop c (tIn te D cs) J σ (upd H1 D (.lst [])) fun H => Q (.ref D) H
structure ClOk0 (Y : Cx) (c : Cl1) : Prop where
  pg : PG Y c.tg c.g
  pt : PTs Y c.ifs c.tt
structure ClOk (Y : Cx) (c : Cl1) : Prop extends ClOk0 Y c where
  pi : PI Y c.tg c.iter c.wi
  fs : ∀ x, foldedSetIterable c.iter Y.env x = pure x
/-- slots that know at least what is known -/
def Knows (σ τ : L2.St) : Prop := σ.length = τ.length ∧ ∀ (j : Nat) v, σ[j]? = some (some v) → τ[j]? = some (some v)
theorem Knows.wipe (σ : L2.St) (vs : List Nat) : Knows (L2.wipe σ vs) σ := ⟨wipe_length _ _, fun _ _ e => (wipe_some e).1⟩
theorem Knows.trans {a b c : L2.St} (h : Knows a b) (k : Knows b c) : Knows a c := ⟨h.1.trans k.1, fun j v e => k.2 j v (h.2 j v e)⟩
theorem Knows.less {σ : L2.St} {vs ws : List Nat} (h : ∀ i ∈ ws, i ∈ vs) : Knows (L2.wipe σ vs) (L2.wipe σ ws) :=
  ⟨by rw [wipe_length, wipe_length], fun j v e => by
    obtain ⟨q1, q2⟩ := wipe_some e
    rw [wipe_out fun z => q2 (h j z)]
    exact q1⟩
section
variable {Y : Cx} {te : TE} {D : Addr} {elt : Expr} {scope : Scope} {pos : Pos} {gens : List Comprehension}
/-- what stands at a clause's end -/
def ActOk (Y : Cx) (act : Sem Unit) (inner : L2.St → Hp → (Hp → Prop) → Prop) (vs : List Nat) : Prop :=
  ∀ (pins : List (Addr × Obj)) (s : Shared) (σ : L2.St) (H : Hp) (N : Hp → Prop), Inv Y pins σ H s → inner σ H N → wpAny (model Y.prog Y.w) Y.A act (fun _ s' => ∃ σ' H', Inv Y pins σ' H' s' ∧ N H' ∧ Knows (L2.wipe σ vs) σ') noE s
def Going (Y : Cx) (pins : List (Addr × Obj)) (σ : L2.St) (fp : List Addr) (tn : Nat → Heap → Prop) (P : Nat → Nat → Hp → Prop) (n : Nat) (s : Shared) : Prop :=
  ∃ i H, Inv Y pins σ H s ∧ tn i s.heap ∧ (∀ b ∈ fp, H b = none) ∧ P i n H
theorem clause_loop (hc : Y.calm = true) (hx : Y.xe = noE) {c : Cl1} (ok : ClOk0 Y c) {act : Sem Unit} {inner : L2.St → Hp → (Hp → Prop) → Prop} (ha : ActOk Y act inner c.vs) {k : Nat} {i0 : Expr} {acc : Value} {it : Addr}
    (ht : compTurn (.ListComp elt gens scope pos) k (.ref it) acc Y.env = (standAt i0.pos >>= fun _ => pyNext (.ref it) >>= fun r => match r with
      | none => pure (.done .next)
      | some v => cStep c.tg c.ifs Y.env (.ref it) act v >>= fun _ => again (.compLoop (.ListComp elt gens scope pos) k (.ref it) acc Y.env)))
    {pins : List (Addr × Obj)} {s : Shared} {σ : L2.St} {H : Hp} {fp : List Addr} {tn : Nat → Heap → Prop} {J : It} {Nx : Hp → Prop} {R : Result → Shared → Prop}
    (I : Inv Y pins σ H s) (T : Turn Y.prog Y.w Y.K c.tg J fp it tn) (st : tn 0 s.heap) (f : ∀ b ∈ fp, FpOk Y pins H b) (h : tLoop c inner J σ H Nx)
    (hR : ∀ s' H', Inv Y pins (L2.wipe σ c.vs) H' s' → (∀ b ∈ fp, H' b = none) → Nx H' → R (.ok .next) s') :
    codeAny (model Y.prog Y.w) Y.A (.compLoop (.ListComp elt gens scope pos) k (.ref it) acc Y.env) R s := by
  obtain ⟨P, ⟨m0, p0⟩, go⟩ := h
  have fpo : ∀ {G : Hp}, (∀ b ∈ fp, G b = none) → ∀ b ∈ fp, FpOk Y pins G b := fun z b hb => ⟨z b hb, (f b hb).2⟩
  refine clause_walk ht (Going Y pins (L2.wipe σ c.vs) fp tn P) (fun n s1 ⟨i, H1, I1, t1, n1, p1⟩ => ?_) m0 ⟨0, H, I.weak (wipe_length _ _) fun j v => (Knows.wipe σ c.vs).2 j v, st, fun b hb => (f b hb).1, p0⟩
  rcases go i n H1 p1 with ⟨hs, hn⟩ | ⟨hg, N, hN, hy⟩
  · refine calmly rfl (T.done Y rfl rfl rfl hc i pins s1 _ H1 noE I1 (fpo n1) t1 hs) fun r s2 ⟨q, I2⟩ => ?_
    rw [q]
    exact hR s2 H1 I2 n1 hn
  · refine calmly rfl (T.item Y rfl rfl rfl hc i pins s1 _ H1 noE I1 (fpo n1) t1 hg) fun r s2 ⟨u, q, w2⟩ => ?_
    rw [q]
    refine wpAny_bind (calmly rfl w2 fun _ s3 ⟨x, H3, I3, r3, y3, t3, n3⟩ => ?_)
    have P3 := I3.pinned (fpo n3) (T.obj _ _ t3)
    refine wpAny_bind (calmly hx (ok.pg.run _ s3 _ H3 x u _ P3 r3 (hy x H3 y3)) fun _ s4 ⟨σ4, H4, I4, w4, q4⟩ => ?_)
    refine wpAny_bind (calmly hx (ok.pt.run _ s4 σ4 H4 _ I4 q4) fun b s5 ⟨H5, I5, q5⟩ => ?_)
    have close : ∀ {τ : L2.St} {z : Shared} {G : Hp}, Inv Y (pins ++ pinsAt fp s3.heap) τ G z → Knows (L2.wipe σ c.vs) τ → N G → ∃ m, m < n ∧ Going Y pins (L2.wipe σ c.vs) fp tn P m z := fun {τ z G} Z kn nG => by
      obtain ⟨m, lt, pm⟩ := hN G nG
      have held : ∀ b ∈ fp, ∀ o, s3.heap.get? b = some o → z.heap.get? b = some o ∧ G b = none := fun b hb o e => by
        have y := Z.pin (b, o) (List.mem_append_right _ (List.mem_append_right _ (mem_pinsAt hb e)))
        exact ⟨y.1, y.2.1⟩
      refine ⟨m, lt, i + 1, G, Z.unpinned.weak kn.1 kn.2, T.keep _ _ _ t3 (fun b hb o e => (held b hb o e).1), fun b hb => ?_, pm⟩
      obtain ⟨o, e, _⟩ := T.obj _ _ t3 b hb
      exact (held b hb o e).2
    have kn4 : Knows (L2.wipe σ c.vs) σ4 := by rw [← w4]; exact Knows.wipe σ4 c.vs
    cases b with
    | false => exact wpAny_pure (close I5 kn4 q5)
    | true =>
      refine calmly rfl (ha _ s5 σ4 H5 N I5 q5) fun _ s6 ⟨σ6, H6, I6, q6, kn6⟩ => close I6 ?_ q6
      rw [w4] at kn6
      exact kn6
theorem act_end_ok (hx : Y.xe = noE) (pe : PE Y elt te) (vs : List Nat) : ActOk Y (actEnd elt (.ref D) Y.env) (tIn te D []) vs := fun pins s σ H N I q => by
  refine wpAny_bind (calmly hx (pe.run pins s σ H _ I q) fun v s1 ⟨y, H1, I1, r1, acc, hD, lt, nx⟩ => ?_)
  exact wpAny_bind (app_ok (X := Y) I1 hD lt r1 fun s2 I2 => wpAny_pure ⟨σ, _, I2, nx, Knows.wipe σ vs⟩)
theorem gens_at {c : Cl1} {cs : List Cl1} {k : Nat} (h : gens.drop k = (c :: cs).map Cl1.gen) : gens[k]? = some ⟨c.tg, c.iter, c.ifs, 0⟩ ∧ gens.drop (k + 1) = cs.map Cl1.gen := by
  constructor
  · have := congrArg (fun l => l[0]?) h
    simpa [Cl1.gen] using this
  · have := congrArg (fun l => l.drop 1) h
    simpa [Cl1.gen] using this
theorem block_loop (hc : Y.calm = true) (hx : Y.xe = noE) (pe : PE Y elt te) : ∀ (cs : List Cl1) (c : Cl1) (k : Nat), gens.drop k = (c :: cs).map Cl1.gen → ClOk0 Y c → (∀ d ∈ cs, ClOk Y d) → List.Pairwise (fun a b : Cl1 => ∀ i ∈ b.vs, i ∈ a.vs) (c :: cs) →
    ∀ {pins : List (Addr × Obj)} {s : Shared} {σ : L2.St} {H : Hp} {it : Addr} {fp : List Addr} {tn : Nat → Heap → Prop} {J : It} {Nx : Hp → Prop} {R : Result → Shared → Prop},
    Inv Y pins σ H s → Turn Y.prog Y.w Y.K c.tg J fp it tn → tn 0 s.heap → (∀ b ∈ fp, FpOk Y pins H b) → tLoop c (tIn te D cs) J σ H Nx →
    (∀ s' H', Inv Y pins (L2.wipe σ c.vs) H' s' → (∀ b ∈ fp, H' b = none) → Nx H' → R (.ok .next) s') →
    codeAny (model Y.prog Y.w) Y.A (.compLoop (.ListComp elt gens scope pos) k (.ref it) (.ref D) Y.env) R s
  | [], c, k, hg, ok, _, _ => fun I T st f h hR => by
    obtain ⟨g0, g1⟩ := gens_at hg
    have g1 : gens[k + 1]? = none := by
      have := congrArg (fun l => l[0]?) g1
      simpa using this
    exact clause_loop hc hx ok (act_end_ok hx pe c.vs) (turn_end g0 g1) I T st f h hR
  | d :: cs, c, k, hg, ok, oks, pw => fun I T st f h hR => by
    obtain ⟨g0, g1⟩ := gens_at hg
    obtain ⟨g2, _⟩ := gens_at g1
    have okd := oks d (List.mem_cons_self ..)
    obtain ⟨pw1, pw2⟩ := List.pairwise_cons.mp pw
    refine clause_loop hc hx ok (inner := tIn te D (d :: cs)) (fun pins s σ H N I q => ?_) (turn_next g0 g2) I T st f h hR
    refine act_next (F := fun s' => ∃ σ' H', Inv Y pins σ' H' s' ∧ N H' ∧ Knows (L2.wipe σ c.vs) σ') okd.fs ?_
    refine calmly hx (okd.pi.run pins s σ H _ I q) fun v s1 w1 => calmly hx w1 fun j s2 w2 => ?_
    obtain ⟨jt, fp1, tn1, J1, H1, e1, I1, T1, t1, f1, q1⟩ := w2
    subst e1
    have run := block_loop hc hx pe cs d (k + 1) g1 okd.toClOk0 (fun x hx' => oks x (List.mem_cons_of_mem _ hx')) pw2 (R := fun r s' => match r with
      | .ok _ => ∃ σ' H', Inv Y pins σ' H' s' ∧ N H' ∧ Knows (L2.wipe σ c.vs) σ'
      | .error _ => False) I1 T1 t1 f1 q1 fun s' H' I' _ nx => ⟨_, H', I', nx, Knows.less (pw1 d (List.mem_cons_self ..))⟩
    exact start_clause g2 run (T1.self Y.A 0 s2 _ noE t1 run)
end
/-! ### entering the block -/
section
variable {X : Cx} {pins : List (Addr × Obj)} {σ : L2.St} {H : Hp} {s : Shared}
def addList (s : Shared) : Shared := { s with heap := s.heap.push { cls := .type "list", data := .seq ([] : List Value).toArray } }
def addBlock (scope : Scope) (s : Shared) : Shared := { s with heap := pushCells (s.heap.push { cls := .type "dict", data := .dict #[] }) scope.names }
def blockCells (X : Cx) (scope : Scope) (s : Shared) : List (Str × Addr) := cellsFrom (s.heap.objs.size + 1) scope.names (cloFrom X.env.cells scope.names [])
def blockEnv (X : Cx) (scope : Scope) (s : Shared) : Env := compEnvC scope (blockCells X scope s) s.heap.objs.size X.env
theorem addList_keep {b : Addr} {o : Obj} (e : s.heap.get? b = some o) : (addList s).heap.get? b = some o := Heap.get?_push_of_some _ e
theorem addBlock_keep {scope : Scope} {b : Addr} {o : Obj} (e : s.heap.get? b = some o) : (addBlock scope s).heap.get? b = some o := pushCells_keeps _ _ _ _ (Heap.get?_push_of_some _ e)
theorem listed (I : Inv X pins σ H s) : Inv X pins σ (upd H s.heap.objs.size (.lst [])) (addList s) :=
  I.laid (t' := s.toks) (fun _ _ e => addList_keep e) (Nat.le_refl _) ⟨Nat.zero_le _, [], 0, .nil, Heap.get?_push_size _ rfl⟩
theorem still {b : Addr} (h : FpOk X pins H b) (lt : b < s.heap.objs.size) : FpOk X pins (upd H s.heap.objs.size (.lst [])) b ∧ b < (addList s).heap.objs.size :=
  ⟨⟨by rw [upd_ne (Nat.ne_of_lt lt)]; exact h.1, h.2⟩, by
    have e : (addList s).heap.objs.size = s.heap.objs.size + 1 := Heap.size_push ..
    rw [e]; exact Nat.lt_succ_of_lt lt⟩
/-- the iterator's objects as the block sees them -/
theorem in_block {scope : Scope} {fp : List Addr} {s1 s2 : Shared} {G : Hp} {τ : L2.St} (I : Inv (X.blk s1 H scope (blockEnv X scope s1) fp) [] τ G s2) {b : Addr} (hb : b ∈ fp) (n : G b = none) : FpOk (X.blk s1 H scope (blockEnv X scope s1) fp) [] G b :=
  ⟨n, (I.ok.exf b hb).1, I.ok.exfs b hb, .inl hb, fun x c e => (I.ok.exf b hb).2 x c e, fun p hp => by
    have hp : p ∈ ([] : List (Addr × Obj)) ++ [] := hp
    simp at hp⟩
/-- and back -/
theorem out_block {scope : Scope} {fp : List Addr} {s2 : Shared} {G : Hp} {τ : L2.St} (I : Inv X pins σ H s) (f : ∀ b ∈ fp, FpOk X pins H b) (J : Inv (X.blk s H scope (blockEnv X scope s) fp) [] τ G s2) :
    Inv X pins σ G s2 ∧ (∃ m, s2.heap.Ns s.heap.objs.size m) ∧ FpOk X pins G s.heap.objs.size := by
  have free : G s.heap.objs.size = none := J.free
  obtain ⟨m, hm, _⟩ := J.loc
  refine ⟨I.call' (ch := fp) J.os J.base J.hok J.bare fun b hb => ?_, ⟨m, hm⟩, I.fpOk (Nat.le_refl _) free⟩
  obtain ⟨_, a1, a2, a3, a4, a5⟩ := f b hb
  exact ⟨a3, a1, a4, a5⟩
abbrev Blk (X : Cx) (scope : Scope) (F : Cx → Prop) : Prop := ∀ (s : Shared) (H : Hp) (C : Addr) (cl : List (Str × Addr)) (fp : List Addr), F (X.blk s H scope (compEnvC scope cl C X.env) fp)
variable {Q : VK} {elt : Expr} {scope : Scope} {own : List (Str × Nat)} {pos pos' : Pos} {c : Cl1} {cs : List Cl1} {te : TE}
theorem lcM_core {use : Option (Value → Sem Unit)} {Qf : Value → Shared → Prop}
    (hc : X.calm = true) (hN : X.N.Nodup) (I : Inv X pins σ H s) (hi : PI X c.tg c.iter c.wi) (ok : BlkOk X.N X.env.scope scope own) (hvs : c.vs = own.map (·.2)) (pw : List.Pairwise (fun a b : Cl1 => ∀ i ∈ b.vs, i ∈ a.vs) (c :: cs))
    (h0 : Blk X scope fun Y => ClOk0 Y c) (hcs : Blk X scope fun Y => ∀ d ∈ cs, ClOk Y d) (he : Blk X scope fun Y => PE Y elt te) (hs : ∀ x, foldedSetIterable c.iter X.env x = pure x)
    (h : tLcN c cs te σ H Q)
    (hRR : ∀ D C s' m H', Inv X pins σ H' s' → Q (.ref D) H' → s'.heap.Ns C m → FpOk X pins H' C → compPost (model X.prog X.w) X.A X.xe use Qf (.ref D) C (.ok .next) s') :
    wpAny (model X.prog X.w) X.A (comprehension (.ListComp elt (c.gen :: cs.map Cl1.gen) scope pos) scope X.env pos' (newList []) false (eval c.iter X.env) use) Qf X.xe s := by
  have cells : ∀ y ∈ scope.names, y.2 = .free → ∃ a, X.env.cells.lookup y.1 = some a := fun y hy e => (ok.free y hy e).elim (fun z => I.ok.has _ (.inl z)) fun z => I.ok.has _ (.inr z)
  refine wpAny_comprehension_free (use := use) (g := c.gen) (gs := cs.map Cl1.gen) rfl hs (closure_ok cells) ok.kind (fun y hy e => by rw [ok.uniq y hy, e]) ?_
  refine thn (hi.run pins s σ H _ I h) fun v s1 w1 => thn w1 fun j s2 ⟨it, fp, tn, J, H2, e, I2, T, t2, f2, go⟩ => ?_
  subst e
  have lt2 : ∀ b ∈ fp, b < s2.heap.objs.size := fun b hb => by
    obtain ⟨o, e, _⟩ := T.obj _ _ t2 b hb
    exact Heap.lt_size e
  have h3 := go s2.heap.objs.size (I2.hok.fresh (Nat.le_refl _))
  have I3 := listed I2
  have f3 : ∀ b ∈ fp, FpOk X pins (upd H2 s2.heap.objs.size (.lst [])) b ∧ b < (addList s2).heap.objs.size := fun b hb => still (f2 b hb) (lt2 b hb)
  have t3 : tn 0 (addList s2).heap := T.keep _ _ _ t2 fun _ _ _ e => addList_keep e
  have I4 := block_start I3 ok hN f3
  have t4 : tn 0 (addBlock scope (addList s2)).heap := T.keep _ _ _ t3 fun _ _ _ e => addBlock_keep e
  refine wpAny_newObj_type (newEnv_comp ?_) (Nat.zero_le _)
  have Ib : Inv (X.blk (addList s2) (upd H2 s2.heap.objs.size (.lst [])) scope (blockEnv X scope (addList s2)) fp) [] (L2.wipe σ (own.map (·.2))) (upd H2 s2.heap.objs.size (.lst [])) (addBlock scope (addList s2)) := I4
  have fb : ∀ b ∈ fp, FpOk (X.blk (addList s2) (upd H2 s2.heap.objs.size (.lst [])) scope (blockEnv X scope (addList s2)) fp) [] (upd H2 s2.heap.objs.size (.lst [])) b := fun b hb => in_block Ib hb (f3 b hb).1.1
  rw [← hvs] at Ib
  have loop := block_loop (R := compPost (model X.prog X.w) X.A X.xe use Qf (.ref s2.heap.objs.size) (addList s2).heap.objs.size) (D := s2.heap.objs.size) (elt := elt) (scope := scope) (pos := pos) (gens := c.gen :: cs.map Cl1.gen)
    (Y := X.blk (addList s2) (upd H2 s2.heap.objs.size (.lst [])) scope (blockEnv X scope (addList s2)) fp) hc rfl (he ..) cs c 0 rfl (h0 ..) (hcs _ _ _ _ _) pw Ib T t4 fb
    (Nx := fun G => Q (.ref s2.heap.objs.size) G) (by
      obtain ⟨P, p0, step⟩ := h3
      refine ⟨P, p0, fun i m G p => ?_⟩
      have q := step i m G p
      unfold tTurn at q ⊢
      rw [wipe_wipe]
      exact q) fun s5 G I5 _ q => by
    rw [wipe_wipe] at I5
    obtain ⟨I6, ⟨m, hm⟩, fC⟩ := out_block I3 (fun b hb => (f3 b hb).1) I5
    exact hRR _ _ s5 m G I6 q hm fC
  exact codeAny_compStart_list loop (T.self X.A 0 _ _ _ t4 loop)
theorem pe_lcM (hc : X.calm = true) (hN : X.N.Nodup) (hi : PI X c.tg c.iter c.wi) (ok : BlkOk X.N X.env.scope scope own) (hvs : c.vs = own.map (·.2)) (pw : List.Pairwise (fun a b : Cl1 => ∀ i ∈ b.vs, i ∈ a.vs) (c :: cs))
    (h0 : Blk X scope fun Y => ClOk0 Y c) (hcs : Blk X scope fun Y => ∀ d ∈ cs, ClOk Y d) (he : Blk X scope fun Y => PE Y elt te) (hs : ∀ x, foldedSetIterable c.iter X.env x = pure x) :
    PE X (.ListComp elt (c.gen :: cs.map Cl1.gen) scope pos) (tLcN c cs te) := ⟨fun pins s σ H Q I h => by
  rw [eval_ListComp]
  refine lcM_core hc hN I hi ok hvs pw h0 hcs he hs h fun D C s' m G J q hm ⟨f0, f1, f2, f3, f4, f5⟩ => ⟨m, hm, fun h2 sb => ?_⟩
  exact ⟨.ref D, G, J.turned (t' := s'.toks) (fun b o hb e => (sb.2 b hb).trans e) f0 f1 f3 f4 f5, rfl, q⟩⟩
theorem ps_setLcM {i : Nat} {y : Str} {py spos : Pos} (hc : X.calm = true) (hN : X.N.Nodup) (hy : X.N[i]? = some y) (hyl : X.env.scope.names.lookup y = some .local)
    (hsw : swapsWith (.ListComp elt (c.gen :: cs.map Cl1.gen) scope pos) (some (.Name y py)) spos.line X.env = pure true) (hi : PI X c.tg c.iter c.wi) (ok : BlkOk X.N X.env.scope scope own) (hvs : c.vs = own.map (·.2)) (pw : List.Pairwise (fun a b : Cl1 => ∀ i ∈ b.vs, i ∈ a.vs) (c :: cs))
    (h0 : Blk X scope fun Y => ClOk0 Y c) (hcs : Blk X scope fun Y => ∀ d ∈ cs, ClOk Y d) (he : Blk X scope fun Y => PE Y elt te) (hs : ∀ x, foldedSetIterable c.iter X.env x = pure x) :
    PS X (.Assign [.Name y py] (.ListComp elt (c.gen :: cs.map Cl1.gen) scope pos) spos) (tAsg (tLcN c cs te) (gName i)) := ⟨fun pins s σ H Z I h => by
  rw [exec_Assign_Name_used _ _ _ _ hsw]
  have core := lcM_core (Q := fun x H1 => gName i x σ H1 Z.nx) (pos' := firstIterPos (c.gen :: cs.map Cl1.gen) pos) (pos := pos) (use := some (assign (.Name y py) X.env)) (Qf := fun _ s' => SP X pins Z .next s') hc hN I hi ok hvs pw h0 hcs he hs h fun D C s' m G J q hm ⟨f0, f1, f2, f3, f4, f5⟩ =>
    wpAny_assign_Name (store_ok2 (v := V.ref D) J hN hy (.inl hyl) rfl (fun s2 J2 ⟨a, sb, ha⟩ => by
      have ne : C ≠ a := ha.elim (fun z => by rw [z]; exact f1) fun z e => f4 y a z e.symm
      exact ⟨m, hm.sameBut sb ne, fun h3 sb3 => ⟨_, G, J2.turned (t' := s2.toks) (fun b o hb e => (sb3.2 b hb).trans e) f0 f1 f3 f4 f5, q⟩⟩) (.inr hyl))
  exact wpAny_bind (wpAny_standAt (wpAny_bind (wpAny_bind (thn core fun _ s' q => wpAny_pure (wpAny_pure q)))))⟩
end
end Mi
set_option Elab.async false
set_option linter.all false
set_option autoImplicit false
set_option maxRecDepth 100000
set_option maxHeartbeats 2000000
namespace Mi
open PySem PySem.Spec PyProof.Rows L2
variable [TbC]
structure Cd where
  it : DI
  t : DG
  c : D Bool
  vs : List Nat
open Classical in
noncomputable def clL (cd : Cd) (inner : Sl → Cs → R Unit) (lk : Option Nat) (all : List T) : List T → Sl → Cs → R Unit
  | [], _, cs => unlR lk all (fun c => .ok () c) cs
  | x :: xs, sl, cs => if LockOk lk all cs then (match cd.t (.t x) (wipeS sl cd.vs) cs with
      | .ok sl1 cs1 => (match cd.c sl1 cs1 with
        | .ok true cs2 => (match inner sl1 cs2 with
          | .ok _ cs4 => clL cd inner lk all xs sl cs4
          | _ => .bad)
        | .ok false cs2 => clL cd inner lk all xs sl cs2
        | _ => .bad)
      | _ => .bad) else .bad
noncomputable def inL (e : D SV) (j : Nat) : List Cd → Sl → Cs → R Unit
  | [], sl, cs => (match e sl cs with
    | .ok r cs3 => (match appC (.c j) r cs3 with
      | .ok _ cs4 => .ok () cs4
      | _ => .bad)
    | _ => .bad)
  | cd :: cds, sl, cs => (match cd.it sl cs with
    | .ok p c1 => clL cd (inL e j cds) p.2 p.1 p.1 sl c1
    | _ => .bad)
noncomputable def dCompM (cd : Cd) (cds : List Cd) (e : D SV) : D SV := fun sl cs => (cd.it sl cs).bind fun p c1 => (clL cd (inL e c1.length cds) p.2 p.1 p.1 sl (c1 ++ [.lst []])).bind fun _ c2 => finC c1.length c2
/-- a clause as HandS has it, and as it is meant -/
structure ClD (g : G) (W : WX) (c : Cl1) (cd : Cd) : Prop where
  wi : c.wi = rd g W relI cd.it
  tk : TgOk g cd.vs c.g cd.t
  tt : c.tt = rd g Wf relB cd.c
  vs : c.vs = cd.vs
inductive ClDs (g : G) : List Cl1 → List Cd → Prop
  | nil : ClDs g [] []
  | cons {c : Cl1} {cd : Cd} {cs : List Cl1} {cds : List Cd} : ClD g Wf c cd → ClDs g cs cds → ClDs g (c :: cs) (cd :: cds)
section
variable {X : Cx} {g : G} {W : WX}
/-- what goes on behind a clause's tests -/
def InOk (g : G) (D0 : Addr) (j : Nat) (tI : L2.St → Hp → (Hp → Prop) → Prop) (inner : Sl → Cs → R Unit) : Prop :=
  ∀ (σ : L2.St) (H : Hp) (ad : Ad) (sl : Sl) (cs cs' : Cs) (Nx : Hp → Prop), StR g H ad σ sl → CsR H ad cs → SvR g H ad (.ref D0) (.c j) → inner sl cs = .ok () cs' →
    (∀ H' ad', Ex H ad H' ad' → CsR H' ad' cs' → SvR g H' ad' (.ref D0) (.c j) → Nx H') → tI σ H Nx
theorem loop_ok {c : Cl1} {cd : Cd} {D0 : Addr} {j : Nat} {tI : L2.St → Hp → (Hp → Prop) → Prop} {inner : Sl → Cs → R Unit} (tk : TgOk g cd.vs c.g cd.t) (tt : c.tt = rd g Wf relB cd.c) (hvs : c.vs = cd.vs) (hin : InOk g D0 j tI inner)
    {J : It} {σ : L2.St} {H1 H0 : Hp} {ad1 ad0 : Ad} {c1 cE : Cs} {sl : Sl} {ts : List T} {lk : Option Nat} {Nx : Hp → Prop} (s1 : ItOk J H0 ad0 (ts, lk)) (e0 : Ex H0 ad0 H1 ad1) (S1 : StR g H1 ad1 σ sl) (C1 : CsR H1 ad1 c1) (hD : SvR g H1 ad1 (.ref D0) (.c j))
    (h : clL cd inner lk ts ts sl c1 = .ok () cE) (hN : ∀ H' ad', Ex H1 ad1 H' ad' → CsR H' ad' cE → SvR g H' ad' (.ref D0) (.c j) → Nx H') : tLoop c tI J σ H1 Nx := by
  refine ⟨fun i m H' => ∃ cs' ad', m = ts.length - i ∧ i ≤ ts.length ∧ Ex H1 ad1 H' ad' ∧ CsR H' ad' cs' ∧ SvR g H' ad' (.ref D0) (.c j) ∧ clL cd inner lk ts (ts.drop i) sl cs' = .ok () cE,
    ⟨ts.length, c1, ad1, by simp, Nat.zero_le _, Ex.refl, C1, hD, by simpa using h⟩, ?_⟩
  rintro i m H' ⟨cs', ad', rfl, hi, e', C', hD', A'⟩
  by_cases hlt : i < ts.length
  · right
    rw [List.drop_eq_getElem_cons hlt] at A'
    unfold clL at A'
    split at A'
    · rename_i l
      have hx : ts[i]? = some ts[i] := by simp [hlt]
      obtain ⟨go, yld⟩ := s1.go i H' ad' cs' _ (e0.trans e') C' l hx
      refine ⟨go, fun H2 => ∃ cs2 ad2, Ex H1 ad1 H2 ad2 ∧ CsR H2 ad2 cs2 ∧ SvR g H2 ad2 (.ref D0) (.c j) ∧ clL cd inner lk ts (ts.drop (i + 1)) sl cs2 = .ok () cE,
        fun H2 ⟨cs2, ad2, q1, q2, q3, q4⟩ => ⟨ts.length - (i + 1), by omega, cs2, ad2, rfl, hlt, q1, q2, q3, q4⟩, fun x H2 y => ?_⟩
      obtain ⟨sm, rp⟩ := yld x H2 y
      have e2' : Ex H1 ad1 H2 ad' := e'.trans (Ex.same sm)
      have C2' : CsR H2 ad' cs' := C'.same sm
      cases z : cd.t (.t ts[i]) (wipeS sl cd.vs) cs' with
      | bad => rw [z] at A'; cases A'
      | ex y1 cs3 => rw [z] at A'; cases A'
      | ok sl3 cs3 =>
        rw [z] at A'
        simp only at A'
        have ez := tk.fix _ _ _ _ _ z
        subst ez
        unfold tTurn
        rw [hvs]
        refine tk.run H2 ad' x (.t ts[i]) (wipeS sl cd.vs) sl3 cs3 cs3 (L2.wipe σ cd.vs) _ ((S1.mono e2').wipe cd.vs) rp z fun σ3 S3 w3 => ⟨w3.trans wipe_wipe, ?_⟩
        rw [tt]
        refine ⟨sl3, cs3, ad', S3, C2', ?_⟩
        cases z2 : cd.c sl3 cs3 with
        | bad => rw [z2] at A'; cases A'
        | ex y1 cs4 => rw [z2] at A'; cases A'
        | ok b cs4 =>
          rw [z2] at A'
          intro b' H4 ad4 e4 C4 eb
          obtain rfl : b' = b := eb
          cases b' with
          | false =>
            simp only at A'
            rw [if_neg Bool.false_ne_true]
            exact ⟨cs4, ad4, e2'.trans e4, C4, (hD'.mono (Ex.same sm)).mono e4, A'⟩
          | true =>
            simp only at A'
            rw [if_pos rfl]
            cases z3 : inner sl3 cs4 with
            | bad => rw [z3] at A'; cases A'
            | ex y1 cs5 => rw [z3] at A'; cases A'
            | ok u cs5 =>
              rw [z3] at A'
              simp only at A'
              exact hin σ3 H4 ad4 sl3 cs4 cs5 _ (S3.mono e4) C4 ((hD'.mono (Ex.same sm)).mono e4) z3 fun H5 ad5 e5 C5 hD5 => ⟨cs5, ad5, (e2'.trans e4).trans e5, C5, hD5, A'⟩
    · cases A'
  · left
    have hie : i = ts.length := by omega
    subst hie
    rw [List.drop_length] at A'
    have A2 : unlR lk ts (fun c => (R.ok () c : R Unit)) cs' = .ok () cE := A'
    have nb : unlR lk ts (fun c => (R.ok () c : R Unit)) cs' ≠ .bad := fun q => by rw [q] at A2; cases A2
    obtain ⟨l, cs5, q5, k5⟩ := unlR_ok nb
    rw [q5] at A2
    cases A2
    exact ⟨s1.stop _ H' ad' cs' (e0.trans e') C' l rfl, hN H' ad' e' (k5 _ _ C') hD'⟩
theorem in_ok {e : D SV} {D0 : Addr} {j : Nat} : ∀ {cs : List Cl1} {cds : List Cd}, ClDs g cs cds → InOk g D0 j (tIn (rd g Wf (relE g) e) D0 cs) (inL e j cds)
  | [], _, .nil => fun σ H ad sl cs cs' Nx S C hD h k => by
    unfold inL at h
    refine ⟨sl, cs, ad, S, C, ?_⟩
    cases z3 : e sl cs with
    | bad => rw [z3] at h; cases h
    | ex y1 cs5 => rw [z3] at h; cases h
    | ok r cs5 =>
      rw [z3] at h
      simp only at h
      intro v H5 ad5 e5 C5 sv
      unfold appC at h
      simp only at h
      cases z4 : take1 r cs5 with
      | none => rw [z4] at h; cases h
      | some p =>
        obtain ⟨u, cs6⟩ := p
        rw [z4] at h
        simp only at h
        obtain ⟨ad6, e6, C6, r6⟩ := take1_ok C5 sv z4
        cases z5 : cs6[j]? with
        | none => rw [z5] at h; cases h
        | some k1 =>
          rw [z5] at h
          cases k1 with
          | dead => cases h
          | lock ts4 => cases h
          | dct ts4 => cases h
          | lst acc =>
            simp only at h
            by_cases hlen : acc.length < sizeLine
            · rw [if_pos hlen] at h
              have s6 := (hD.mono e5).mono e6
              obtain ⟨a6, xs, h6, q0, q1, q2⟩ := C6.at_lst s6 z5
              cases q0
              refine ⟨xs, q1, by rw [q2.len]; exact hlen, ?_⟩
              obtain ⟨e7, C7⟩ := C6.write (o := .lst (xs ++ [v])) (k := .lst (acc ++ [u])) h6 ⟨_, upd_same, Rps.mono (exWrite h6 (C6.notTbl h6) (fun _ z => by cases z)) _ _ (Rps.append q2 (Rps.one r6))⟩
              cases h
              exact k _ ad6 ((e5.trans e6).trans e7) C7 (s6.mono e7)
            · rw [if_neg hlen] at h
              cases h
  | c :: cs', cd :: cds, .cons hd tl => fun σ H ad sl cs csE Nx S C hD h k => by
    show c.wi σ H _
    rw [hd.wi]
    refine ⟨sl, cs, ad, S, C, ?_⟩
    unfold inL at h
    cases z : cd.it sl cs with
    | bad => rw [z] at h; cases h
    | ex y1 cs5 => rw [z] at h; cases h
    | ok p c1 =>
      rw [z] at h
      intro J H1 ad1 e1 C1 s1
      exact loop_ok hd.tk hd.tt hd.vs (in_ok tl) s1 Ex.refl (S.mono e1) C1 (hD.mono e1) h fun H' ad' e' C' hD' => k H' ad' (e1.trans e') C' hD'
theorem rd_compM {σ : L2.St} {H : Hp} {Q : VK} {c : Cl1} {cs : List Cl1} {cd : Cd} {cds : List Cd} {e : D SV} (hd : ClD g W c cd) (ht : ClDs g cs cds)
    (hw : rd g W (relE g) (dCompM cd cds e) σ H Q) : tLcN c cs (rd g Wf (relE g) e) σ H Q := by
  obtain ⟨sl, cs0, ad, S, C, A⟩ := hw
  show c.wi σ H _
  rw [hd.wi]
  refine ⟨sl, cs0, ad, S, C, Aft.bind (rel := relI) A fun J p c1 H1 ad1 e1 C1 s1 A1 D0 nD => ?_⟩
  obtain ⟨ts, lk⟩ := p
  have S1 := S.mono e1
  have hl1 := C1.len
  obtain ⟨e2, C2⟩ := C1.new (k := .lst []) (o := .lst []) nD ⟨[], upd_same, rfl⟩
  have hD : SvR g (upd H1 D0 (.lst [])) (ad1 ++ [some D0]) (.ref D0) (.c c1.length) := by
    refine ⟨by simp [hl1], fun a q => ?_⟩
    rw [← hl1, List.getElem?_append_right (Nat.le_refl _), Nat.sub_self] at q
    cases q; rfl
  simp only at A1
  cases z : clL cd (inL e c1.length cds) lk ts ts sl (c1 ++ [.lst []]) with
  | bad => rw [z] at A1; exact A1.elim
  | ex x c2 =>
    exfalso
    revert z
    generalize c1 ++ [_root_.Mi.C.lst []] = c3
    intro z
    have : ∀ xs c3, clL cd (inL e c1.length cds) lk ts xs sl c3 ≠ .ex x c2 := by
      intro xs
      induction xs with
      | nil =>
        intro c3 q
        have q : unlR lk ts (fun c => (R.ok () c : R Unit)) c3 = .ex x c2 := q
        have nb : unlR lk ts (fun c => (R.ok () c : R Unit)) c3 ≠ .bad := fun q' => by rw [q'] at q; cases q
        obtain ⟨l, cs5, q5, k5⟩ := unlR_ok nb
        rw [q5] at q; cases q
      | cons y ys ih =>
        intro c3 q
        unfold clL at q
        repeat' split at q
        all_goals first | exact ih _ q | cases q
    exact this _ _ z
  | ok u c2 =>
    rw [z] at A1
    exact loop_ok hd.tk hd.tt hd.vs (in_ok ht) s1 e2 (S1.mono e2) C2 hD z fun H' ad' e' C' hD' => finC_ok C1 (e2.trans e') C' hD' A1
theorem m_lcM {elt : Expr} {scope : Scope} {own : List (Str × Nat)} {pos : Pos} {c : Cl1} {cs : List Cl1} {cd : Cd} {cds : List Cd} {de : D SV} (hc : X.calm = true) (hN : X.N.Nodup) (hi : PI X c.tg c.iter c.wi) (ok : BlkOk X.N X.env.scope scope own) (hvs : c.vs = own.map (·.2)) (pw : List.Pairwise (fun a b : Cl1 => ∀ i ∈ b.vs, i ∈ a.vs) (c :: cs))
    (h0 : Blk X scope fun Y => ClOk0 Y c) (hcs : Blk X scope fun Y => ∀ d ∈ cs, ClOk Y d) (he : Blk X scope fun Y => ME g Wf Y elt de) (hd : ClD g W c cd) (ht : ClDs g cs cds) (hs : ∀ x, foldedSetIterable c.iter X.env x = pure x := by intro _; rfl) :
    ME g W X (.ListComp elt (c.gen :: cs.map Cl1.gen) scope pos) (dCompM cd cds de) :=
  PE.cons (pe_lcM hc hN hi ok hvs pw h0 hcs he hs) fun σ H Q hw => rd_compM hd ht hw
theorem ms_setLcM {i : Nat} {y : Str} {py : Pos} {elt : Expr} {scope : Scope} {own : List (Str × Nat)} {pos spos : Pos} {c : Cl1} {cs : List Cl1} {cd : Cd} {cds : List Cd} {de : D SV} (hc : X.calm = true) (hN : X.N.Nodup) (hy : X.N[i]? = some y) (hyl : X.env.scope.names.lookup y = some .local)
    (hsw : swapsWith (.ListComp elt (c.gen :: cs.map Cl1.gen) scope pos) (some (.Name y py)) spos.line X.env = pure true) (hi : PI X c.tg c.iter c.wi) (ok : BlkOk X.N X.env.scope scope own) (hvs : c.vs = own.map (·.2)) (pw : List.Pairwise (fun a b : Cl1 => ∀ i ∈ b.vs, i ∈ a.vs) (c :: cs))
    (h0 : Blk X scope fun Y => ClOk0 Y c) (hcs : Blk X scope fun Y => ∀ d ∈ cs, ClOk Y d) (he : Blk X scope fun Y => ME g Wf Y elt de) (hd : ClD g W c cd) (ht : ClDs g cs cds) (hs : ∀ x, foldedSetIterable c.iter X.env x = pure x := by intro _; rfl) :
    MS g W X (.Assign [.Name y py] (.ListComp elt (c.gen :: cs.map Cl1.gen) scope pos) spos) (dAsg (dCompM cd cds de) (tgName i)) :=
  PS.cons (ps_setLcM hc hN hy hyl hsw hi ok hvs pw h0 hcs he hs) fun Z σ H hw => by
    have h1 := rd_asg Z σ H hw
    refine rd_compM (W := W) hd ht ?_
    obtain ⟨sl, cs, ad, S, C, A⟩ := h1
    exact ⟨sl, cs, ad, S, C, A.imp fun v H1 ⟨r, sl, cs, ad, S, C, s, A⟩ => A _ H1 ad Ex.refl (S.set s) C⟩
end
end Mi
set_option Elab.async false
set_option linter.all false
set_option autoImplicit false
set_option maxRecDepth 100000
set_option maxHeartbeats 4000000
namespace Mi
open PySem PySem.Spec PyProof.Rows L2
variable [TbC]
/-! ### len(set(texts)) -/
def uniq : List Str → List Str → List Str
  | acc, [] => acc
  | acc, x :: xs => uniq (if x ∈ acc then acc else acc ++ [x]) xs
theorem walkX {prog : Program} {w : World} {A : Around} (hh : A.handled = none) (b : Bool) (it l : Addr) (hne : l ≠ it) (its : Array Value) :
    Walks prog w A it [it, l] [it] its.size (fun i v => its[i]? = some v) (fun i h => ItX b h it l i ∧ ObX b h l its) := by
  cases b with
  | true => exact Walks.tuple hh it l hne its
  | false => exact Walks.list hh it l hne its
/-- the set at this address holds these texts, each once -/
abbrev TxSet (prog : Program) (w : World) (h : Heap) (a : Addr) (xs : List Str) : Prop := h.SetOf (PySem.strKind prog w) a (fun k => decide (k ∈ xs)) xs.length
theorem TxSet.keep {prog : Program} {w : World} {h h' : Heap} {a : Addr} {xs : List Str} (t : TxSet prog w h a xs) (k : ∀ o, h.get? a = some o → h'.get? a = some o) : TxSet prog w h' a xs := by
  obtain ⟨o, es, ep, tb, ho, rest⟩ := t
  exact ⟨o, es, ep, tb, k o ho, rest⟩
theorem TxSet.add {prog : Program} {w : World} {h : Heap} {a : Addr} {acc : List Str} {x : Str} (t : h.SetOf (PySem.strKind prog w) a (fun k => decide (k ∈ acc) || decide (k = x)) (if decide (x ∈ acc) = true then acc.length else acc.length + 1)) :
    TxSet prog w h a (if x ∈ acc then acc else acc ++ [x]) := by
  by_cases m : x ∈ acc
  · rw [if_pos m]
    refine SetOf_congr t (fun k => ?_) (by simp [m])
    by_cases e : k = x
    · subst e; simp [m]
    · simp [e]
  · rw [if_neg m]
    exact SetOf_congr t (fun k => by simp) (by simp [m])
section
variable {prog : Program} {w : World} {A : Around} {R : Result → Shared → Prop}
theorem set_loop {it l S n : Nat} {P : Nat → Value → Prop} {St : Nat → Heap → Prop} {xs : List Str} (W : Walks prog w A.in1 it [it, l] [it] n P St) (ni : S ≠ it) (nl : S ≠ l) (len : xs.length = n)
    (val : ∀ i v, P i v → ∃ x t, xs[i]? = some x ∧ v = .str x t) : ∀ (rest acc : List Str) (i : Nat) (s : Shared), xs.drop i = rest → i + rest.length = n → acc.length + rest.length < 4000 → St i s.heap → TxSet prog w s.heap S acc →
    (∀ h' tk, (∀ b o, b ≠ S → b ≠ it → s.heap.get? b = some o → h'.get? b = some o) → TxSet prog w h' S (uniq acc rest) → R (.ok (.ret .none)) { s with heap := h', toks := tk }) →
    codeAny (model prog w) A (.builtin "set.update.loop" ⟨[.ref S, .ref it], []⟩) R s
  | [], acc, i, s, hd, hi, hb, st, t, k => by
    obtain rfl : i = n := by simpa using hi
    refine codeAny_builtin F.entry_set_update_loop (Around.under_plainId F.plain_set_update_loop _ ▸ ?_)
    exact wpAny_bind (W.done s _ _ st fun h' tk same => wpAny_pure (k h' tk (fun b o _ nb e => same b o (by simpa using nb) e) (t.keep fun o e => same S o (by simpa using ni) e)))
  | x :: rest, acc, i, s, hd, hi, hb, st, t, k => by
    have at_ : xs[i]? = some x := by
      have := congrArg (fun l => l[0]?) hd
      simpa using this
    have tl : xs.drop (i + 1) = rest := by
      have := congrArg (fun l => l.drop 1) hd
      simpa using this
    simp only [List.length_cons] at hi hb
    refine codeAny_builtin F.entry_set_update_loop (Around.under_plainId F.plain_set_update_loop _ ▸ ?_)
    refine wpAny_bind (W.item i s _ _ (by omega) st fun v h1 t1 pv st1 same => ?_)
    obtain ⟨y, ty, q, rfl⟩ := val i v pv
    rw [at_] at q
    cases q
    have t1' : TxSet prog w h1 S acc := t.keep fun o e => same S o (by simpa using ni) e
    refine wpAny_bind (wpAny_holding ?_)
    show wpAny _ _ (setAdd S (.str x ty)) _ _ _
    unfold setAdd
    refine wpAny_holding (wpAny_bind ((PySem.strKind prog w).pyHash (k := x) (strKind_is _ _ _ _) ?_))
    refine wpAny_setAddHashed_of (knd := PySem.strKind prog w) (s := { s with heap := h1, toks := t1 + 1 }) (strKind_is _ _ _ _) rfl t1' (by unfold scanBound; omega) fun h2 sb t2 => ?_
    refine wpAny_pure ⟨plainId_quiet F.plain_set_update_loop _, ?_⟩
    refine set_loop W ni nl len val rest _ (i + 1) _ tl (by omega) ?_ (W.frame _ h1 _ st1 fun b hb o e => ?_) (TxSet.add t2) fun h3 t3 k3 t4 => ?_
    · split <;> (try simp only [List.length_append, List.length_cons, List.length_nil]) <;> omega
    · have nb : b ≠ S := fun z => by
        subst z
        simp only [List.mem_cons, List.not_mem_nil, or_false] at hb
        exact hb.elim ni nl
      exact (sb.2 b nb).trans e
    · exact k h3 t3 (fun b o nS ni' e => k3 b o nS ni' ((sb.2 b nS).trans (same b o (by simpa using ni') e))) t4
end
theorem sub_seqX (b : Bool) : isSubtype (.type (if b then "tuple" else "list")) (.type "set") = pure false ∧ isSubtype (.type (if b then "tuple" else "list")) (.type "frozenset") = pure false ∧ ((Value.type (if b then "tuple" else "list") : Value) == Value.type "dict") = false := by
  cases b with
  | true => exact ⟨F.sub_tuple_set, F.sub_tuple_frozenset, by decide⟩
  | false => exact ⟨F.sub_list_set, F.sub_list_frozenset, by decide⟩
structure Txts (items : Array Value) (xs : List Str) : Prop where
  len : xs.length = items.size
  val : ∀ (i : Nat) v, items[i]? = some v → ∃ x t, xs[i]? = some x ∧ v = .str x t
abbrev newSetO (led : Bool) : Obj := { cls := .type "set", dict := none, data := .set #[] 0 (.fresh 0 0 led) }
section
variable {prog : Program} {w : World} {A : Around} {E : Value → Shared → Prop} {s : Shared}
/-- the work of the new set's __init__ -/
theorem set_init {b : Bool} {l : Addr} {items : Array Value} {xs : List Str} {led : Bool} (hh : A.handled = none) (ob : ObX b s.heap l items) (hi : Txts items xs) (hb : xs.length < 4000) {R : Value → Shared → Prop}
    (k : ∀ h' tk, TxSet prog w h' s.heap.objs.size (uniq [] xs) → Grows s.heap h' → R .none { s with heap := h', toks := tk }) :
    wpAny (model prog w) A (Builtin.«set.__init__» ⟨[.ref s.heap.objs.size, .ref l], []⟩) (fun fin s' => ∃ v, fin = .done (.ret v) ∧ R v s') E { s with heap := s.heap.push (newSetO led) } := by
  obtain ⟨u1, u2, u3⟩ := sub_seqX b
  have hS : (s.heap.push (newSetO led)).get? s.heap.objs.size = some (newSetO led) := Heap.get?_push_size _ rfl
  have L : ObX b (s.heap.push (newSetO led)) l items := ob.push _
  obtain ⟨o, ho, hcl⟩ : ∃ o, (s.heap.push (newSetO led)).get? l = some o ∧ o.cls = .type (if b then "tuple" else "list") := by
    cases b <;> (obtain ⟨o, q1, q2, _⟩ := L; exact ⟨o, q1, q2⟩)
  obtain ⟨oc, od, oda, osl⟩ := o
  simp only at hcl
  subst hcl
  unfold Builtin.«set.__init__» noKeywords Builtin.Frozenset.updateFrom
  generalize hPI : pyIter = PI
  wp_walk
  subst hPI
  refine pyIterX L (wpAny_bind (wpAny_runValue ?_))
  have far : l < s.heap.objs.size := by
    obtain ⟨o, e⟩ := ob.obj
    exact Heap.lt_size e
  have sz : (s.heap.push (newSetO led)).objs.size = s.heap.objs.size + 1 := Heap.size_push ..
  rw [sz]
  have n1 : s.heap.objs.size ≠ s.heap.objs.size + 1 := Nat.ne_of_lt (Nat.lt_succ_self _)
  have n2 : l ≠ s.heap.objs.size + 1 := Nat.ne_of_lt (Nat.lt_succ_of_lt far)
  have itn := ItX.new b (s.heap.push (newSetO led)) l
  rw [sz] at itn
  have t0 : TxSet prog w ((s.heap.push (newSetO led)).push (itObjX b l)) s.heap.objs.size [] :=
    PyProof.Rows.SetOf_congr ((PyProof.Rows.setObjOf_fresh (knd := PySem.strKind prog w) led).setOf (Grows.push _ _ _ hS) (by unfold scanBound; omega)) (fun k => by simp) rfl
  refine set_loop (walkX (A := A.in1) (by simpa using hh) b _ l n2 items) n1 (Nat.ne_of_gt far) hi.len hi.val xs [] 0 _ rfl (by simpa using hi.len) (by simpa using hb) ⟨itn, L.push _⟩ t0 fun h' tk same t => ?_
  refine wpAny_pure (wpAny_pure ⟨_, rfl, k h' tk t fun c o e => ?_⟩)
  have lt := Heap.lt_size e
  exact same c o (Nat.ne_of_lt lt) (Nat.ne_of_lt (Nat.lt_succ_of_lt lt)) (Grows.push _ _ _ (Grows.push _ _ _ e))
/-- what a class makes by __new__ is readied by __init__ -/
theorem call_setX {b : Bool} {l : Addr} {items : Array Value} {xs : List Str} {Q : Value → Shared → Prop} (hh : A.handled = none) (ob : ObX b s.heap l items) (hi : Txts items xs) (hb : xs.length < 4000)
    (k : ∀ h' tk, TxSet prog w h' s.heap.objs.size (uniq [] xs) → Grows s.heap h' → Q (.ref s.heap.objs.size) { s with heap := h', toks := tk }) : wpAny (model prog w) A (call (.type "set") [.ref l]) Q E s := by
  have called := PySem.F.called_set
  obtain ⟨c0, cs, mro⟩ := called.mro
  have c1 := called.made
  have c2 := called.sub
  have c3 := called.notType
  have c4 := called.canCreate
  have c5 := PySem.F.typeCall_set_1 (.ref l)
  refine wpAny_call (codeAny_of_tree (wpAny_pure ⟨Code.quiet_builtin _ (by decide +kernel), codeAny_builtin PySem.F.entry_type_call ?_⟩))
  rw [Around.under_plain (weight_type_call_type "set" [.ref l] []) rfl]
  repeat (any_goals (first | assumption | wp_step))
  refine codeAny_mono (code_set_new_1 (.ref l) (E := E) (Q₁ := fun v z => ∃ led, v = .ref s.heap.objs.size ∧ z = { s with heap := s.heap.push (newSetO led) }) fun led => ⟨led, rfl, rfl⟩) fun r z got => ?_
  rcases r with e | f
  · exact got
  cases f <;> first | exact got.elim | skip
  rename_i v
  obtain ⟨led, rfl, rfl⟩ := got
  have is_set : Shared.TypeIs { s with heap := s.heap.push (newSetO led) } (.ref s.heap.objs.size) "set" := ⟨_, Heap.get?_push_size _ rfl, rfl⟩
  have i1 := called.init.lookup
  have i2 := called.init.bind (.ref s.heap.objs.size)
  repeat (any_goals (first | assumption | wp_step))
  refine codeAny_mono (codeAny_call_builtin (R := wants (fun r z => r = .none ∧ Q (.ref s.heap.objs.size) z) E) called.init.plain PySem.F.entry_set_init (check_set_init_1 is_set
    (wpAny_mono (set_init (A := A.in1.in1) (E := E) (R := fun r z => r = .none ∧ Q (.ref s.heap.objs.size) z) (by simpa using hh) ob hi hb fun h' tk t g => ⟨rfl, k h' tk t g⟩) (fun fin z q => ?_) fun _ _ q => q))) fun r z got => ?_
  · obtain ⟨v, rfl, q⟩ := q
    exact q
  · rcases r with e | f
    · exact got
    cases f <;> first | exact got.elim | skip
    obtain ⟨rfl, q⟩ := got
    repeat (any_goals (first | assumption | wp_step))
end
/-! the rule -/
section
variable {X : Cx} {g : G} {W : WX}
def strsT : List T → Option (List Str)
  | [] => some []
  | .str x :: ts => (strsT ts).map (x :: ·)
  | _ => none
def dLenSet (a : D SV) : D SV := fun sl cs => (a sl cs).bind fun r c => match res r c with
  | some t => (match seqT t with
    | some ts => (match strsT ts with
      | some xs => if xs.length < 4000 then .ok (.t (.int (uniq [] xs).length)) c else .bad
      | none => .bad)
    | none => .bad)
  | none => .bad
end
end Mi
set_option Elab.async false
set_option linter.all false
set_option autoImplicit false
set_option maxRecDepth 100000
set_option maxHeartbeats 1000000
namespace Mi
open PySem PySem.Spec PyProof.Rows L2
variable [TbC]
section
variable {X : Cx} {g : G} {W : WX}
theorem strs_rps {H : Hp} {ad : Ad} : ∀ {ts : List T} {xs : List Str} {vs : List V}, strsT ts = some xs → Rps H ad vs ts → vs = xs.map V.str
  | [], _, vs, e, h => by cases e; exact h
  | .str x :: ts, xs, vs, e, h => by
    unfold strsT at e
    obtain ⟨ys, e1, rfl⟩ := Option.map_eq_some_iff.mp e
    obtain ⟨v, r, rfl, h1, h2⟩ := h
    obtain rfl : v = .str x := h1
    rw [strs_rps e1 h2]
    rfl
  | .none :: _, _, _, e, _ => by cases e
  | .bool _ :: _, _, _, e, _ => by cases e
  | .int _ :: _, _, _, e, _ => by cases e
  | .tuple _ :: _, _, _, e, _ => by cases e
  | .list _ :: _, _, _, e, _ => by cases e
  | .dict _ :: _, _, _, e, _ => by cases e
theorem txts_of : ∀ {xs : List Str} {us : List Value}, Vals (xs.map V.str) us → xs.length = us.length ∧ ∀ (i : Nat) v, us[i]? = some v → ∃ x t, xs[i]? = some x ∧ v = .str x t
  | [], us, h => by
    cases h
    exact ⟨rfl, fun i v e => by simp at e⟩
  | x :: xs, us, h => by
    obtain _ | ⟨q, t⟩ := h
    obtain ⟨h1, h2⟩ := txts_of t
    refine ⟨by simp [h1], fun i v e => ?_⟩
    cases i with
    | zero =>
      obtain rfl := Option.some.inj e
      obtain ⟨tk, q⟩ := q
      exact ⟨x, tk, rfl, q⟩
    | succ i => exact h2 i v e
def tLenSet (K : PySem.W.Frag) (ta : TE) : TE := fun σ H Q => ta σ H fun x H1 => ∃ (b : Bool) (l : Addr) (xs : List Str), x = .ref l ∧ SqX K b H1 l (xs.map V.str) ∧ xs.length < 4000 ∧ Q (.int (uniq [] xs).length) H1
theorem uniq_len : ∀ (xs acc : List Str), (uniq acc xs).length ≤ acc.length + xs.length
  | [], acc => Nat.le_refl _
  | x :: xs, acc => by
    unfold uniq
    refine Nat.le_trans (uniq_len xs _) ?_
    split <;> simp <;> omega
theorem pe_lenSet {a : Expr} {ta : TE} {p p2 q pos : Pos} (hc : X.calm = true) (hg : Gl X "len") (hm : X.mg "len" = none) (hg2 : Gl X "set") (hm2 : X.mg "set" = none) (ha : PE X a ta)
    (hs : starEach [a] X.env = (false, eval a X.env) :: starEach [] X.env := by rfl) : PE X (.Call (.Name "len" p) [.Call (.Name "set" p2) [a] [] q] [] pos) (tLenSet X.K ta) := ⟨fun pins s σ H Q I h => by
  refine Call_ (ld_blt I hg hm PySem.boot_len (PyProof.Rows.callWith_builtin1 (PyProof.Rows.args_cons ?_ rfl) rfl rfl))
  refine Call_ (ld_blt I hg2 hm2 PyProof.Rows.boot_set (PyProof.Rows.callWith_type1 (PyProof.Rows.args_cons (thn (ha.run pins s σ H _ I h) fun v s1 ⟨x, H1, I1, r1, b, l, xs, e, hq, hl, k⟩ => PyProof.Rows.args_nil ?_) hs) hs rfl))
  subst e
  cases r1
  obtain ⟨its, rv, ob, _⟩ := invX I1 hq
  obtain ⟨e1, e2⟩ := txts_of rv
  refine call_setX (I1.ok.hd hc) ob ⟨by rw [List.size_toArray]; exact e1, fun i v z => e2 i v (by simpa using z)⟩ hl fun h' tk t gr => PyProof.Rows.args_nil ?_
  obtain ⟨o, es, ep, tb, w1, w2, w3, _, _, _, w4, w5⟩ := t
  have small := uniq_len xs []
  simp only [List.length_nil, Nat.zero_add] at small
  exact call_len_set w1 w2 w3 w4 (by rw [w5]; omega) ⟨.int (uniq [] xs).length, H1, (I1.kept gr).tok _, ⟨_, by rw [w5]⟩, k⟩⟩
theorem m_lenSet {a : Expr} {d : D SV} {p p2 q pos : Pos} (hc : X.calm = true) (hg : Gl X "len") (hm : X.mg "len" = none) (hg2 : Gl X "set") (hm2 : X.mg "set" = none) (ha : ME g W X a d)
    (hs : starEach [a] X.env = (false, eval a X.env) :: starEach [] X.env := by rfl) : ME g W X (.Call (.Name "len" p) [.Call (.Name "set" p2) [a] [] q] [] pos) (dLenSet d) := by
  refine PE.cons (pe_lenSet hc hg hm hg2 hm2 ha hs) fun σ H Q ⟨sl, cs, ad, S, C, A⟩ => ?_
  refine ⟨sl, cs, ad, S, C, Aft.bind (rel := relE g) A fun x r c1 H1 ad1 e1 C1 s1 A1 => ?_⟩
  cases z : res r c1 with
  | none => rw [z] at A1; exact A1.elim
  | some t =>
    rw [z] at A1
    simp only at A1
    cases z2 : seqT t with
    | none => rw [z2] at A1; exact A1.elim
    | some ts =>
      rw [z2] at A1
      simp only at A1
      cases z3 : strsT ts with
      | none => rw [z3] at A1; exact A1.elim
      | some xs =>
        rw [z3] at A1
        simp only at A1
        split at A1
        · rename_i hl
          have pk := res_pk C1 s1 z
          cases t <;> first | cases z2 | skip
          · obtain ⟨l, vs, rfl, h2, h4⟩ := pk
            rw [strs_rps z3 h4] at h2
            exact ⟨false, l, xs, rfl, SqL.of h2, hl, A1 _ H1 ad1 Ex.refl C1 rfl⟩
          · obtain ⟨l, vs, rfl, h2, _, h4⟩ := pk
            rw [strs_rps z3 h4] at h2
            exact ⟨true, l, xs, rfl, SqT.of h2, hl, A1 _ H1 ad1 Ex.refl C1 rfl⟩
        · exact A1.elim
/-! names of the module -/
theorem m_glob {x : Str} {v : V} {t : T} {pos : Pos} (hg : Gl X x) (h : ∃ u, X.mg x = some u ∧ RelV v u) (r : ∀ H ad, Rp H ad v t) (hd : (x == ("__debug__" : Str)) = false := by decide) : ME g W X (.Name x pos) (dC t) :=
  PE.cons (pe_glob hg h.choose_spec.1 h.choose_spec.2 hd) fun σ H Q ⟨sl, cs, ad, S, C, A⟩ => A v H ad Ex.refl C (r H ad)
theorem m_globS {x z : Str} {pos : Pos} (hg : Gl X x) (h : ∃ u, X.mg x = some u ∧ RelV (.str z) u) (hd : (x == ("__debug__" : Str)) = false := by decide) : ME g W X (.Name x pos) (dC (.str z)) := m_glob hg h (fun _ _ => rfl) hd
theorem m_globI {x : Str} {i : Int} {pos : Pos} (hg : Gl X x) (h : ∃ u, X.mg x = some u ∧ RelV (.int i) u) (hd : (x == ("__debug__" : Str)) = false := by decide) : ME g W X (.Name x pos) (dC (.int i)) := m_glob hg h (fun _ _ => rfl) hd
end
end Mi
set_option Elab.async false
set_option linter.all false
set_option autoImplicit false
set_option maxRecDepth 100000
set_option maxHeartbeats 1000000
namespace Mi
open PySem PySem.Spec PyProof.Rows L2
variable [TbC]
/-! ### defs and their calls -/
/-- a def as the top has written it -/
def Dn (K : PySem.W.Frag) (mg : Str → Option Value) (x : Str) (st : Stmt) (ps : List Str) : Prop := ∃ f fd, mg x = some (.ref f) ∧ L2.Fun K x x st f fd ∧ Binds K fd ps []
/-- a def that keeps the promise of its meaning -/
def Cal (g : G) (P : Program) (w : World) (K : PySem.W.Frag) (mg : Str → Option Value) (base : Heap) (k : Nat) (x : Str) (ps : List Str) (F : List SV → Cs → R SV) : Prop :=
  ∃ f fd, mg x = some (.ref f) ∧ PySem.W.keepIn K (.ref f) = true ∧ Binds K fd ps [] ∧ FnM g P w K mg base k f fd ps F
theorem Cal.of {g : G} {P : Program} {w : World} {K : PySem.W.Frag} {mg : Str → Option Value} {base : Heap} {x : Str} {st : Stmt} {N ps : List Str} {k n : Nat} {body : DS} (D : Dn K mg x st ps) (S : FnScope N ps (defScope st)) (hn : N.length = n)
    (hb : ∀ (cdv : Value) (A : Around) (outer : List Env) (s : Shared) (H : Hp) (E : XK) (f : Addr), Room k (A.deeper (envOfC x (defScope st) s.heap.objs.size f cdv)) → MSs (g0 g) (fun cls d _ H => E cls d H) (cxOf (L2.CX P w) P w K mg base N x (defScope st) f cdv A outer s H E) (defBody st) body) :
    Cal g P w K mg base (k + 1) x ps (runF n body) := by
  obtain ⟨f, fd, hm, hF, hB⟩ := D
  exact ⟨f, fd, hm, hF.kp, hB, fn_m hF S hn fun cdv A outer s H E hr => hb cdv A outer s H E f hr⟩
def LenN (d : D (List SV)) (n : Nat) : Prop := ∀ {sl cs rs cs'}, d sl cs = .ok rs cs' → rs.length = n
theorem len_nil : LenN dNil 0 := fun h => by cases h; rfl
theorem len_cons {a : D SV} {r : D (List SV)} {n : Nat} (h : LenN r n) : LenN (dCons a r) (n + 1) := fun {sl cs rs cs'} q => by
  unfold dCons at q
  cases z : a sl cs with
  | bad => rw [z] at q; cases q
  | ex x c => rw [z] at q; cases q
  | ok v c =>
    rw [z] at q
    simp only [R.bind] at q
    cases z2 : r sl c with
    | bad => rw [z2] at q; cases q
    | ex x c2 => rw [z2] at q; cases q
    | ok vs c2 =>
      rw [z2] at q
      cases q
      rw [List.length_cons, h z2]
section
variable {X : Cx} {g : G} {W : WX}
theorem m_callC {k : Nat} {ps : List Str} {F : List SV → Cs → R SV} {x : Str} {p pos : Pos} {e : Expr} {es : List Expr} {d : D (List SV)} (c : Cal g X.prog X.w X.K X.mg X.base k x ps F) (hr : Room k X.A) (hg : Gl X x)
    (tk : Takes X W) (ha : MA (g0 g) W X (e :: es) d) (hst : LenN d ps.length) (hn : (e :: es).length = ps.length := by rfl) (hdb : (x == ("__debug__" : Str)) = false := by decide) (he : starEach (e :: es) X.env = (false, eval e X.env) :: starEach es X.env := by rfl) (hpl : (backTo pos (starEach es X.env)).any (·.1) = false := by rfl) :
    ME (g0 g) W X (.Call (.Name x p) (e :: es) [] pos) (dCall F d) := by
  obtain ⟨f, fd, hm, hk, hb, hF⟩ := c
  exact m_call (g := g0 g) (n := ps.length) hF rfl hr hg hm hk hb tk ha hn hst hdb he hpl
/-- what is never come to -/
theorem ms_bad {st : Stmt} : MS g W X st (fun _ _ => .bad) := PS.cons (t := fun _ _ _ => False) ⟨fun pins s σ H D I h => h.elim⟩ fun Z σ H ⟨sl, cs, ad, S, C, A⟩ => A
theorem takes0 {X : Cx} : Takes X Wf := fun u s' ⟨_, _, _, _, _, _, _, _, _, _, _, _, _, _, _, _, f⟩ => f.elim
/-! a, b = x, y: stored name by name -/
def dPar (i j : Nat) (a : D (List SV)) : DS := fun sl cs => (a sl cs).bindS sl fun rs c => match rs with
  | [r, q] => .nx ((sl.set i (some r)).set j (some q)) c
  | _ => .bad
def dPar3 (i j l : Nat) (a : D (List SV)) : DS := fun sl cs => (a sl cs).bindS sl fun rs c => match rs with
  | [r, q, z] => .nx (((sl.set i (some r)).set j (some q)).set l (some z)) c
  | _ => .bad
theorem svs2 {H : Hp} {ad : Ad} {vs : List V} {r q : SV} (h : SvsR g H ad vs [r, q]) : ∃ v w, vs = [v, w] ∧ SvR g H ad v r ∧ SvR g H ad w q := by
  obtain ⟨v, _, e, s1, ⟨w, _, e', s2, s3⟩⟩ := h
  have s3 : _ = [] := s3
  subst e e' s3
  exact ⟨v, w, rfl, s1, s2⟩
theorem svs3 {H : Hp} {ad : Ad} {vs : List V} {r q z : SV} (h : SvsR g H ad vs [r, q, z]) : ∃ v w u, vs = [v, w, u] ∧ SvR g H ad v r ∧ SvR g H ad w q ∧ SvR g H ad u z := by
  obtain ⟨v, _, e, s1, s2⟩ := h
  obtain ⟨w, u, e', s3, s4⟩ := svs2 s2
  subst e e'
  exact ⟨v, w, u, rfl, s1, s3, s4⟩
theorem par_rd {i j : Nat} {d : D (List SV)} (Z : Ends) (σ : L2.St) (H : Hp) (h : rdS g W (dPar i j d) Z σ H) : tPar i j (rd g W (relA g) d) Z σ H := by
  obtain ⟨sl, cs, ad, S, C, A⟩ := h
  refine ⟨sl, cs, ad, S, C, AftS.bind (rel := relA g) S A fun vs rs c1 H1 ad1 e1 S1 C1 s1 A1 => ?_⟩
  rcases rs with _ | ⟨r, _ | ⟨q, _ | ⟨z, rs⟩⟩⟩
  · exact A1.elim
  · exact A1.elim
  · obtain ⟨v, w, e, s2, s3⟩ := svs2 s1
    exact ⟨v, w, e, A1 _ H1 ad1 Ex.refl ((S1.set s2).set s3) C1⟩
  · exact A1.elim
theorem par_rd3 {i j l : Nat} {d : D (List SV)} (Z : Ends) (σ : L2.St) (H : Hp) (h : rdS g W (dPar3 i j l d) Z σ H) : tPar3 i j l (rd g W (relA g) d) Z σ H := by
  obtain ⟨sl, cs, ad, S, C, A⟩ := h
  refine ⟨sl, cs, ad, S, C, AftS.bind (rel := relA g) S A fun vs rs c1 H1 ad1 e1 S1 C1 s1 A1 => ?_⟩
  rcases rs with _ | ⟨r, _ | ⟨q, _ | ⟨z, _ | ⟨y, rs⟩⟩⟩⟩
  · exact A1.elim
  · exact A1.elim
  · exact A1.elim
  · obtain ⟨v, w, u, e, s2, s3, s4⟩ := svs3 s1
    exact ⟨v, w, u, e, A1 _ H1 ad1 Ex.refl (((S1.set s2).set s3).set s4) C1⟩
  · exact A1.elim
theorem m_par {i j : Nat} {x y : Str} {a b : Expr} {d : D (List SV)} {px py pt pos : Pos} {kt k2 pt2} (hc : X.calm = true) (hN : X.N.Nodup) (hi : X.N[i]? = some x) (hj : X.N[j]? = some y) (hij : i ≠ j)
    (hx : X.env.scope.names.lookup x = some .local) (hy : X.env.scope.names.lookup y = some .local) (ha : MA g W X [a, b] d)
    (hw : swappedStores [.Tuple [.Name x px, .Name y py] kt pt] (.Tuple [a, b] k2 pt2) X.env = pure (some [x, y]))
    (hs : swapsWithSole [.Tuple [.Name x px, .Name y py] kt pt] (.Tuple [a, b] k2 pt2) pos.line X.env = pure false) :
    MS g W X (.Assign [.Tuple [.Name x px, .Name y py] kt pt] (.Tuple [a, b] k2 pt2) pos) (dPar i j d) :=
  PS.cons (ps_par hc hN hi hj hij hx hy ha hw hs) par_rd
theorem m_par3 {i j l : Nat} {x y z : Str} {a b c : Expr} {d : D (List SV)} {px py pz pt pos : Pos} {kt k2 pt2} (hc : X.calm = true) (hN : X.N.Nodup) (hi : X.N[i]? = some x) (hj : X.N[j]? = some y) (hl : X.N[l]? = some z) (hij : i ≠ j) (hil : i ≠ l) (hjl : j ≠ l)
    (hx : X.env.scope.names.lookup x = some .local) (hy : X.env.scope.names.lookup y = some .local) (hz : X.env.scope.names.lookup z = some .local) (ha : MA g W X [a, b, c] d)
    (hw : swappedStores [.Tuple [.Name x px, .Name y py, .Name z pz] kt pt] (.Tuple [a, b, c] k2 pt2) X.env = pure (some [x, y, z]))
    (hs : swapsWithSole [.Tuple [.Name x px, .Name y py, .Name z pz] kt pt] (.Tuple [a, b, c] k2 pt2) pos.line X.env = pure false) :
    MS g W X (.Assign [.Tuple [.Name x px, .Name y py, .Name z pz] kt pt] (.Tuple [a, b, c] k2 pt2) pos) (dPar3 i j l d) :=
  PS.cons (ps_par3 hc hN hi hj hl hij hil hjl hx hy hz ha hw hs) par_rd3
end
end Mi
set_option Elab.async false
set_option linter.all false
set_option autoImplicit false
set_option maxRecDepth 100000
set_option maxHeartbeats 1000000
namespace Mi
open PySem PySem.Spec PyProof.Rows L2
variable [TbC]
/-! ### names that the derivations use -/
theorem b_len : bootBuiltins "len" = some (.builtin "len") := by decide +kernel
theorem b_any : bootBuiltins "any" = some (.builtin "any") := by decide +kernel
theorem b_all : bootBuiltins "all" = some (.builtin "all") := by decide +kernel
theorem b_min : bootBuiltins "min" = some (.builtin "min") := by decide +kernel
theorem b_max : bootBuiltins "max" = some (.builtin "max") := by decide +kernel
theorem b_isi : bootBuiltins "isinstance" = some (.builtin "isinstance") := by decide +kernel
theorem b_tuple : bootBuiltins "tuple" = some (.type "tuple") := by decide +kernel
theorem b_list : bootBuiltins "list" = some (.type "list") := by decide +kernel
theorem b_int : bootBuiltins "int" = some (.type "int") := by decide +kernel
theorem b_str : bootBuiltins "str" = some (.type "str") := by decide +kernel
theorem b_bool : bootBuiltins "bool" = some (.type "bool") := by decide +kernel
theorem b_dict : bootBuiltins "dict" = some (.type "dict") := by decide +kernel
theorem hu64 {k : Nat} {A : Around} (r : Room k A) : A.units + 64 < cLine := r.units
theorem hu65 {k : Nat} {A : Around} (r : Room k A) : A.units + 65 < cLine := by have := r.un; omega
section
variable {X : Cx} {g : G} {W : WX}
theorem pe_tyn {y : Str} {n : String} (hg : Gl X y) (hm : X.mg y = none) (hv : bootBuiltins y = some (.type n)) (hn : y ≠ "__name__" := by decide) (hdb : (y == ("__debug__" : Str)) = false := by decide) (pos : Pos) : PE X (.Name y pos) (tC (.ty n)) :=
  ⟨fun _ _ _ H _ I h => ld_blt I hg hm hv ⟨.ty n, H, I, rfl, h⟩ hn hdb⟩
theorem cls1 {Y : Cx} {c : Cl1} (h : ClOk Y c) : ∀ d ∈ [c], ClOk Y d := fun d m => by
  obtain rfl : d = c := by simpa using m
  exact h
theorem cls2 {Y : Cx} {c e : Cl1} (h : ClOk Y c) (k : ClOk Y e) : ∀ d ∈ [c, e], ClOk Y d := fun d m => by
  simp only [List.mem_cons, List.not_mem_nil, or_false] at m
  rcases m with rfl | rfl
  · exact h
  · exact k
theorem pw2 {a b : Cl1} (h : ∀ i ∈ b.vs, i ∈ a.vs) : List.Pairwise (fun a b : Cl1 => ∀ i ∈ b.vs, i ∈ a.vs) [a, b] := by simpa using h
theorem pw3 {a b c : Cl1} (h : ∀ i ∈ b.vs, i ∈ a.vs) (h2 : ∀ i ∈ c.vs, i ∈ a.vs) (h3 : ∀ i ∈ c.vs, i ∈ b.vs) : List.Pairwise (fun a b : Cl1 => ∀ i ∈ b.vs, i ∈ a.vs) [a, b, c] := by
  refine List.pairwise_cons.mpr ⟨fun d m => ?_, pw2 h3⟩
  simp only [List.mem_cons, List.not_mem_nil, or_false] at m
  rcases m with rfl | rfl
  · exact h
  · exact h2
/-- a try that nothing is raised in -/
def dCalm (b : DS) : DS := fun sl cs => match b sl cs with
  | .ex _ _ _ => .bad
  | r => r
theorem ms_try0 {body : List Stmt} {h : ExceptHandler} {hs : List ExceptHandler} {pos : Pos} {b : DS} (hb : MSs g Wf X.nox body b) : MS g W X (.Try body (h :: hs) [] [] pos) (dCalm b) :=
  PS.cons (ps_try_thru0 hb) fun Z σ H ⟨sl, cs, ad, S, C, A⟩ => ⟨sl, cs, ad, S, C, by
    unfold dCalm at A
    revert A
    cases b sl cs with
    | ex x sl cs => exact False.elim
    | nx sl cs => exact id
    | rt r cs => exact id
    | bk sl cs => exact id
    | ct sl cs => exact id
    | bad => exact id⟩
end
end Mi
set_option Elab.async false
set_option linter.all false
set_option autoImplicit false
set_option maxRecDepth 100000
set_option maxHeartbeats 4000000
namespace Mi
open PySem PySem.Spec PyProof.Rows L2
variable [TbC]
/-! ### own exceptions over Exception: they are made, raised, caught, read -/
abbrev exTl : List Value := [.type "Exception", .type "BaseException", .type "object"]
structure OexE (K : PySem.W.Frag) (C : Addr) : Prop where
  ini : PySem.W.excInitIn K C exTl "Exception.__new__" = true
  ovr : PySem.W.excOver K C exTl = true
  hdC : PySem.W.hasDictIn K C = true
  sa : PySem.W.findIn K (.ref C) "__setattr__" = some (some (.builtin "object.__setattr__"))
  exC : PySem.W.subIn K (.ref C) (.type "BaseException") = some true
  tyC : PySem.W.typeIn K (.ref C) = some (.type "type")
  kC : PySem.W.keepIn K (.ref C) = true
section
open Builtin Builtin.ObjectAttr
variable {prog : Program} {w : World} {A : Around} {R : Result → Shared → Prop} {hp : Heap} {g : Array GenState} {d : Drawn} {t : Nat} {os : OsState} {K : PySem.W.Frag} {name : Str} {tk : Tok} {v : Value} {x C : Addr} {fv : Array Value}
theorem taker_no (ha : PySem.W.findIn K (.ref C) name = some none) : PySem.W.takerIn K C name = some none := by
  unfold PySem.W.takerIn
  rw [ha]
  rfl
abbrev exO (C t : Addr) (d : Option Addr) : Obj := { cls := .ref C, dict := d, data := .fields #[.ref t, .none, .none, .none, .bool false, .none] }
/-- the first field: the exception gets its dict -/
theorem st_new {t0 : Addr} (X : K.In hp) (hx : hp.get? x = some (exO C t0 none)) (hov : PySem.W.excOver K C exTl = true) (hd : PySem.W.hasDictIn K C = true) (ha : PySem.W.findIn K (.ref C) name = some none)
    (k : ∀ h' tk' dx, (∀ b o, b ≠ x → hp.get? b = some o → h'.get? b = some o) → hp.objs.size ≤ dx → dx ≠ x → h'.get? x = some (exO C t0 (some dx)) →
      h'.Ns1 dx (fun y => if y = name then some v else none) → R (.ok (.ret .none)) ⟨h', g, d, tk', os⟩) :
    codeAny (model prog w) A (.call (.builtin "object.__setattr__") ⟨[.ref x, .str name tk, v], []⟩) R ⟨hp, g, d, t, os⟩ := by
  have ne : x ≠ hp.objs.size := Nat.ne_of_lt (Heap.lt_size hx)
  obtain ⟨cd, hc, dct⟩ := PySem.W.any_some hd
  refine PySem.W.osa_openX (od := none) PySem.F.store_Exception X ⟨hx, rfl, rfl, trivial⟩ hov (taker_no ha) fun b => ?_
  refine wpAny_bind (wpAny_pure (wpAny_bind (PySem.W.instanceDict_exc hx (PySem.W.looks_clsIn X hc) dct ?_)))
  have at_ : (hp.push (PySem.W.dictOf [] 0)).get? hp.objs.size = some (PySem.W.dictOf [] 0) := Heap.get?_push_size _ rfl
  have emp : ((hp.push (PySem.W.dictOf [] 0)).update x fun o => { o with dict := some hp.objs.size }).Ns hp.objs.size (fun _ => none) :=
    ⟨_, #[], _, (Heap.get?_update_ne _ _ _ _ ne.symm).trans at_, rfl, fun e he => absurd he (by simp), fun _ => rfl⟩
  refine PySem.HandSPX.store_in_new emp fun h' tk' hn hs => ?_
  refine k h' tk' hp.objs.size (fun b o hb e => ?_) (Nat.le_refl _) ne.symm ?_ hn
  · exact (hs.2 b (Nat.ne_of_lt (Heap.lt_size e))).trans ((Heap.get?_update_ne _ _ _ _ hb).trans (Heap.get?_push_of_some _ e))
  · exact (hs.2 x ne).trans (Heap.get?_update_self _ (Heap.get?_push_of_some _ hx) rfl)
/-- a further one -/
theorem st_old {t0 dx : Addr} {m0 : Str → Option Value} {nl : List Str} (X : K.In hp) (hx : hp.get? x = some (exO C t0 (some dx))) (hns : hp.Ns1 dx m0) (hw : Within m0 nl) (hz : nl.length ≤ 1000) (hov : PySem.W.excOver K C exTl = true) (hd : PySem.W.hasDictIn K C = true) (ha : PySem.W.findIn K (.ref C) name = some none)
    (k : ∀ h' tk', (∀ b o, b ≠ dx → hp.get? b = some o → h'.get? b = some o) → h'.Ns1 dx (fun y => if y = name then some v else m0 y) → R (.ok (.ret .none)) ⟨h', g, d, tk', os⟩) :
    codeAny (model prog w) A (.call (.builtin "object.__setattr__") ⟨[.ref x, .str name tk, v], []⟩) R ⟨hp, g, d, t, os⟩ := by
  obtain ⟨oD, _, _, hoD, _, _⟩ := hns.count hw
  refine PySem.W.osa_openX (od := some oD) PySem.F.store_Exception X ⟨hx, rfl, rfl, hoD⟩ hov (taker_no ha) fun b => ?_
  obtain ⟨cd, hc, dct⟩ := PySem.W.any_some hd
  have dct : cd.hasDict = true := dct
  refine wpAny_bind (wpAny_pure (wpAny_bind (wpAny_bind (wpAny_loadPart hx (wpAny_bind ((PySem.W.looks_clsIn X hc).here ?_))))))
  rw [dct, if_neg (show ¬ ((!true) = true) by decide)]
  refine wpAny_pure ?_
  exact PySem.OEX.store_in_old hns hw hz fun h' tk' hn hs => k h' tk' (fun b o hb e => (hs.2 b hb).trans e) hn
end
section
variable {X : Cx} {pins : List (Addr × Obj)} {σ : L2.St} {H : Hp} {s : Shared} {a C dx : Addr} {f : Str} {y : V} {u : Value} {fs : List (Str × V)} {E : Value → Shared → Prop} {A : Around}
/-- self.f = y, the first one, on an exception that is being made -/
theorem fld_new {Q : Unit → Shared → Prop} (T : OexE X.K C) (I : Inv X pins σ H s) (e : H a = some (exo a C none)) (hno : PySem.W.findIn X.K (.ref C) f = some none) (ry : RelV y u)
    (k : ∀ d s', H d = none → d ≠ a → Inv X pins σ (upd (upd H a (exo a C (some d))) d (exd d [(f, y)])) s' → Q () s') : wpAny (model X.prog X.w) A (setAttr (.ref a) f u) Q E s := by
  obtain ⟨t0, ho⟩ := exo_at I.hok e
  refine PySem.W.set_plain I.kIn (ox := exO C t0 none) (od := none) ⟨ho, rfl, rfl, trivial⟩ T.sa ?_
  refine st_new I.kIn ho T.ovr T.hdC hno fun h' tk d keep dn dne hx hn => ?_
  have nd : H d = none := I.hok.fresh dn
  obtain ⟨G, g1, g2⟩ := restrict h' fun b => decide (b ≠ d)
  have gk : ∀ {b}, b ≠ d → G.get? b = h'.get? b := fun hb => g1 _ (decide_eq_true hb)
  have gd : G.get? d = none := g2 d (by simp)
  have far : ∀ {b : Addr} {o : Obj}, s.heap.get? b = some o → b ≠ d := fun q => Nat.ne_of_lt (Nat.lt_of_lt_of_le (Heap.lt_size q) dn)
  have I1 : Inv X pins σ (upd H a (exo a C (some d))) { s with heap := G, toks := tk } :=
    I.write (t' := tk) (x := a) (e := a) (o := exo a C (some d)) (by rw [e]; exact True.intro) (.inl rfl) (fun b o hb q => (gk (far q)).trans (keep b o hb q)) ⟨_, (gk dne.symm).trans hx⟩ (exo_ok ((gk dne.symm).trans hx))
  have nd1 : upd H a (exo a C (some d)) d = none := by rw [upd_ne dne]; exact nd
  have I2 := I1.laidN (h' := h') (a := d) (o := exd d [(f, y)]) (t' := tk) (fun b o q => by
    have hb : b ≠ d := fun z => by rw [z, gd] at q; cases q
    rw [← gk hb]; exact q) gd nd1 (exd_ok hn (relO_put (fs := []) ry fun _ => True.intro))
  exact k d _ nd dne I2
/-- a further one -/
theorem fld_old {Q : Unit → Shared → Prop} (T : OexE X.K C) (I : Inv X pins σ H s) (e : H a = some (exo a C (some dx))) (ed : H dx = some (exd dx fs)) (hl : fs.length ≤ 900) (hno : PySem.W.findIn X.K (.ref C) f = some none) (ry : RelV y u)
    (k : ∀ s', Inv X pins σ (upd H dx (exd dx ((f, y) :: fs))) s' → Q () s') : wpAny (model X.prog X.w) A (setAttr (.ref a) f u) Q E s := by
  obtain ⟨t0, ho⟩ := exo_at I.hok e
  obtain ⟨mA, hns, rel⟩ := exd_at I.hok ed
  obtain ⟨oD, _, _, hoD, _, _⟩ := hns.count (within_of rel)
  refine PySem.W.set_plain I.kIn (ox := exO C t0 (some dx)) (od := some oD) ⟨ho, rfl, rfl, hoD⟩ T.sa ?_
  refine st_old I.kIn ho hns (within_of rel) (by rw [List.length_map]; omega) T.ovr T.hdC hno fun h' tk keep hn => ?_
  have there : ∃ o, h'.get? dx = some o := by
    obtain ⟨o, _, _, q, _⟩ := hn
    exact ⟨o, q⟩
  exact k _ (I.write (t' := tk) (x := dx) (e := dx) (o := exd dx ((f, y) :: fs)) (by rw [ed]; exact True.intro) (.inl rfl) keep there (exd_ok hn (relO_put ry rel)))
/-! the __init__ that stores its arguments one by one -/
variable {o e : Expr} {to te : TE} {p' pos : Pos}
def tFld (K : PySem.W.Frag) (f : Str) (to te : TE) : TS := fun D σ H => te σ H fun y H1 => to σ H1 fun x H2 => ∃ a C : Addr, x = .ref a ∧ OexE K C ∧ PySem.W.findIn K (.ref C) f = some none ∧
  ((H2 a = some (exo a C none) ∧ ∀ d, H2 d = none → d ≠ a → D.nx σ (upd (upd H2 a (exo a C (some d))) d (exd d [(f, y)]))) ∨
    ∃ (d : Addr) (fs : List (Str × V)), H2 a = some (exo a C (some d)) ∧ H2 d = some (exd d fs) ∧ fs.length ≤ 900 ∧ D.nx σ (upd H2 d (exd d ((f, y) :: fs))))
theorem ps_fldE (ho : PE X o to) (he : PE X e te) (hs : swapsWith e (some (.Attribute o f p')) pos.line X.env = pure false := by rfl) : PS X (.Assign [.Attribute o f p'] e pos) (tFld X.K f to te) := ⟨fun pins s σ H D I h =>
  plainObj_wpAny_Assign_Attribute (thn (he.run pins s σ H _ I h) fun v s1 ⟨y, H1, I1, r1, q1⟩ => thn (ho.run pins s1 σ H1 _ I1 q1) fun u s2 ⟨x, H2, I2, r2, a, C, ex, T, hno, q⟩ => by
    subst ex
    obtain rfl : u = Value.ref a := r2
    rcases q with ⟨ea, q⟩ | ⟨d, fs, ea, ed, hl, q⟩
    · exact fld_new T I2 ea hno r1 fun d s' n ne J => ⟨σ, _, J, q d n ne⟩
    · exact fld_old T I2 ea ed hl hno r1 fun s' J => ⟨σ, _, J, q⟩) hs⟩
/-- what an __init__ of these fields promises -/
def spIni (K : PySem.W.Frag) (C : Addr) (fs : List Str) : Sp := fun vs H Q _ => ∃ a ws, vs = .ref a :: ws ∧ ws.length = fs.length ∧ OexE K C ∧ (∀ f ∈ fs, PySem.W.findIn K (.ref C) f = some none) ∧ H a = some (exo a C none) ∧
  ∀ d, H d = none → d ≠ a → Q .non (upd (upd H a (exo a C (some d))) d (exd d (fs.zip ws).reverse))
end
section
variable {P : Program} {w : World} {K : PySem.W.Frag} {mg : Str → Option Value} {base : Heap} {x qual : Str} {st : Stmt} {f C : Addr} {fd : FuncData}
/-- def __init__(self, f1): self.f1 = f1 -/
theorem ini1 {f1 : Str} {p1 p2 p3 p4 p5 : Pos} (F : L2.Fun K x qual st f fd) (S : FnScope ["self", f1] ["self", f1] (defScope st)) (hs : (defScope st).names.lookup ("self" : Str) = some NameKind.local) (h1 : (defScope st).names.lookup f1 = some NameKind.local) (d1 : (f1 == ("__debug__" : Str)) = false) (c1 : (f1 == ("__classdict__" : Str)) = false)
    (hb : defBody st = [.Assign [.Attribute (.Name "self" p1) f1 p2] (.Name f1 p3) p4]) : FnOk P w K mg base (L2.CX P w) 1 f fd ["self", f1] (spIni K C [f1]) := by
  refine F.okX S (fun vs H Q E h => ?_) (fun cdv A outer s H vs Q E hr h => ?_)
  · obtain ⟨a, ws, rfl, hl, _⟩ := h
    simp [hl]
  · obtain ⟨a, ws, rfl, hl, T, no, ha, k⟩ := h
    obtain ⟨y, rfl⟩ : ∃ y, ws = [y] := by
      match ws, hl with
      | [y], _ => exact ⟨y, rfl⟩
    rw [hb]
    refine ⟨_, pss_cons (ps_fldE (pv 0 rfl (Or.inl hs)) (pv 1 rfl (Or.inl h1) d1 c1)) pss_nil, ?_⟩
    exact ⟨y, rfl, _, rfl, a, C, rfl, T, no f1 (by simp), .inl ⟨ha, fun d n ne => k d n ne⟩⟩
end
end Mi
set_option Elab.async false
set_option linter.all false
set_option autoImplicit false
set_option maxRecDepth 100000
set_option maxHeartbeats 4000000
namespace Mi
open PySem PySem.Spec PyProof.Rows L2
variable [TbC]
section
variable {P : Program} {w : World} {K : PySem.W.Frag} {mg : Str → Option Value} {base : Heap} {x qual : Str} {st : Stmt} {f C : Addr} {fd : FuncData}
theorem ini2 {f1 f2 : Str} {p1 p2 p3 p4 p5 p6 p7 p8 : Pos} (F : L2.Fun K x qual st f fd) (S : FnScope ["self", f1, f2] ["self", f1, f2] (defScope st)) (hs : (defScope st).names.lookup ("self" : Str) = some NameKind.local) (h1 : (defScope st).names.lookup f1 = some NameKind.local) (h2 : (defScope st).names.lookup f2 = some NameKind.local) (d1 : (f1 == ("__debug__" : Str)) = false) (c1 : (f1 == ("__classdict__" : Str)) = false) (d2 : (f2 == ("__debug__" : Str)) = false) (c2 : (f2 == ("__classdict__" : Str)) = false)
    (hb : defBody st = [.Assign [.Attribute (.Name "self" p1) f1 p2] (.Name f1 p3) p4, .Assign [.Attribute (.Name "self" p5) f2 p6] (.Name f2 p7) p8]) : FnOk P w K mg base (L2.CX P w) 1 f fd ["self", f1, f2] (spIni K C [f1, f2]) := by
  refine F.okX S (fun vs H Q E h => ?_) (fun cdv A outer s H vs Q E hr h => ?_)
  · obtain ⟨a, ws, rfl, hl, _⟩ := h
    simp [hl]
  · obtain ⟨a, ws, rfl, hl, T, no, ha, k⟩ := h
    obtain ⟨y, z, rfl⟩ : ∃ y z, ws = [y, z] := by
      match ws, hl with
      | [y, z], _ => exact ⟨y, z, rfl⟩
    rw [hb]
    refine ⟨_, pss_cons (ps_fldE (pv 0 rfl (Or.inl hs)) (pv 1 rfl (Or.inl h1) d1 c1)) (pss_cons (ps_fldE (pv 0 rfl (Or.inl hs)) (pv 2 rfl (Or.inl h2) d2 c2)) pss_nil), ?_⟩
    refine ⟨y, rfl, _, rfl, a, C, rfl, T, no f1 (by simp), .inl ⟨ha, fun d n ne => ?_⟩⟩
    refine ⟨z, rfl, _, rfl, a, C, rfl, T, no f2 (by simp), .inr ⟨d, [(f1, y)], by rw [upd_ne ne.symm]; exact upd_same, upd_same, by show 1 ≤ 900; decide, ?_⟩⟩
    have q := k d n ne
    have e : upd (upd (upd H a (exo a C (some d))) d (exd d [(f1, y)])) d (exd d [(f2, z), (f1, y)]) = upd (upd H a (exo a C (some d))) d (exd d [(f2, z), (f1, y)]) := by
      funext b
      by_cases hb : b = d
      · subst hb; rw [upd_same, upd_same]
      · rw [upd_ne hb, upd_ne hb, upd_ne hb]
    show Q .non (upd (upd (upd H a (exo a C (some d))) d (exd d [(f1, y)])) d (exd d [(f2, z), (f1, y)]))
    rw [e]
    exact q
end
/-! ### C(e, ..) -/
section
variable {X : Cx} {e : Expr} {es : List Expr} {ta : TA} {p pos : Pos}
/-- the making of an exception of this class with these fields -/
def tMk (C : Addr) (fs : List Str) (ta : TA) : L2.St → Hp → XK → Prop := fun σ H Q => ta σ H fun ws H1 => ws.length = fs.length ∧ ∀ d, H1 d = none → Q (.ref C) (some d) (upd H1 d (.xd (fs.zip ws).reverse))
/-- the class by its name, its __init__ keeping its promise -/
structure MkC (P : Program) (w : World) (K : PySem.W.Frag) (mg : Str → Option Value) (base : Heap) (x : Str) (C : Addr) (fs : List Str) : Prop where
  T : OexE K C
  at_ : mg x = some (.ref C)
  no : ∀ f ∈ fs, PySem.W.findIn K (.ref C) f = some none
  few : fs.length ≤ 900
  ini : ∃ fI fd, PySem.W.findIn K (.ref C) "__init__" = some (some (.ref fI)) ∧ PySem.W.typeIn K (.ref fI) = some (.type "function") ∧ Binds K fd ("self" :: fs) [] ∧ FnOk P w K mg base (L2.CX P w) 1 fI fd ("self" :: fs) (spIni K C fs)
theorem pmk_own2 {x : Str} {C : Addr} {fs : List Str} (M : MkC X.prog X.w X.K X.mg X.base x C fs) (hr : Room 2 X.A) (hx : Passes (L2.CX X.prog X.w) X (fun _ _ _ => False)) (hg : Gl X x) (ha : PA X (e :: es) ta)
    (hdb : (x == ("__debug__" : Str)) = false := by decide) (he : starEach (e :: es) X.env = (false, eval e X.env) :: starEach es X.env := by rfl) (hpl : (backTo pos (starEach es X.env)).any (·.1) = false := by rfl) :
    PMk X (.Call (.Name x p) (e :: es) [] pos) (tMk C fs ta) := fun pins s σ H Q I h => by
  obtain ⟨T, hm, no, few, fI, fd, iC, tI, hb, F⟩ := M
  refine wpAny_Call_Name_kw (ld_glob I hg hm ?_ hdb)
  refine PySem.W.callWith_K (h₀ := X.base) I.ok.mod.kin T.kC (thn (ha.run pos pins s σ H _ I h) fun us s1 ⟨vs, H1, I1, r1, hl, q1⟩ => ⟨I1.kIn, ?_⟩) he hpl
  obtain ⟨nm, N, qn, bs, bm, hdct, sn, sub, ab, col, dd, k0, k1, k2, k3, k5, hC, hbm⟩ := PySem.W.excInit_of I1.kIn T.ini
  obtain ⟨hp, g, dr, tk, os⟩ := s1
  have n1 : hp.objs.size ≤ hp.objs.size + 1 := Nat.le_succ _
  have grow : Grows hp ((hp.push (PySem.W.kdv_tup us)).push (PySem.HandSPX.excO C hp.objs.size)) := (Grows.push _).trans (Grows.push _)
  have got : ((hp.push (PySem.W.kdv_tup us)).push (PySem.HandSPX.excO C hp.objs.size)).get? (hp.objs.size + 1) = some (PySem.HandSPX.excO C hp.objs.size) := by heap_get
  have I2 := I1.laid (t' := tk) (a := hp.objs.size + 1) (o := exo (hp.objs.size + 1) C none) (h' := (hp.push (PySem.W.kdv_tup us)).push (PySem.HandSPX.excO C hp.objs.size)) grow n1 (exo_ok got)
  have nA : H1 (hp.objs.size + 1) = none := I1.hok.fresh n1
  have ul : us.length = fs.length := by rw [← hl, ← Paired.length r1]
  have sp : spIni X.K C fs (V.ref (hp.objs.size + 1) :: vs) (upd H1 (hp.objs.size + 1) (exo (hp.objs.size + 1) C none)) (fun v H2 => v = .non ∧ ∃ d, H1 d = none ∧ d ≠ hp.objs.size + 1 ∧ H2 = upd (upd (upd H1 (hp.objs.size + 1) (exo (hp.objs.size + 1) C none)) (hp.objs.size + 1) (exo (hp.objs.size + 1) C (some d))) d (exd d (fs.zip vs).reverse)) (fun _ _ _ => False) :=
    ⟨_, vs, rfl, hl, T, no, upd_same, fun d n ne => ⟨rfl, d, by rw [upd_ne ne] at n; exact n, ne, rfl⟩⟩
  have small : us.length ≤ sizeLine := by rw [ul, sizeLine_eq]; omega
  have bind := hb ⟨(hp.push (PySem.W.kdv_tup us)).push (PySem.HandSPX.excO C hp.objs.size), g, dr, tk, os⟩ (Value.ref (hp.objs.size + 1) :: us) I2.kIn (by simp [ul])
  rw [List.append_nil] at bind
  refine wpAny_call (PySem.HandSPX.call_own PySem.F.excBase_Exception hbm hC (PySem.W.looks_findIn I1.kIn iC) (fun self => PySem.W.bind_fn I1.kIn self tI) small
    (codeAny_mono (F.run _ X.stack _ _ ⟨Value.ref (hp.objs.size + 1) :: us, []⟩ (Value.ref (hp.objs.size + 1) :: us) _ _ (fun _ _ _ => False) (hr.make C us []) (I2.env0.make C us []) bind (.cons (show L2.RelV (V.ref (hp.objs.size + 1)) (Value.ref (hp.objs.size + 1)) from rfl) r1) sp) fun r s' got' => ?_))
  rcases r with er | fl
  · exact hx pins σ _ _ er s' I2 got'
  · cases fl <;> first | exact got'.elim | skip
    obtain ⟨v, H2, os2, bare2, un2, hok2, rv, ev, d, nd, ne, eH⟩ := got'
    subst ev
    obtain ⟨h2, g2, d2, t2, os'⟩ := s'
    have ea : H2 (hp.objs.size + 1) = some (exo (hp.objs.size + 1) C (some d)) := by rw [eH, upd_ne ne.symm]; exact upd_same
    have ed : H2 d = some (exd d (fs.zip vs).reverse) := by rw [eH]; exact upd_same
    have eq : upd (del H2 (hp.objs.size + 1)) d (.xd (fs.zip vs).reverse) = upd H1 d (.xd (fs.zip vs).reverse) := by
      funext b
      by_cases hb : b = d
      · subst hb; rw [upd_same, upd_same]
      · rw [upd_ne hb, upd_ne hb]
        by_cases hb2 : b = hp.objs.size + 1
        · subst hb2; rw [del_same, nA]
        · rw [del_ne hb2, eH, upd_ne hb, upd_ne hb2, upd_ne hb2]
    refine ⟨rv, mk_end (raises_own T.exC T.tyC) I1 n1 grow un2 hok2 os2 bare2 ea ed nd ?_⟩
    rw [eq]
    exact q1 d nd
end
end Mi
set_option Elab.async false
set_option linter.all false
set_option autoImplicit false
set_option maxRecDepth 100000
set_option maxHeartbeats 2000000
namespace Mi
open PySem PySem.Spec PyProof.Rows L2
variable [TbC]
/-! ### raise, try .. except C as e, e.f -/
theorem RpF.app {H : Hp} {ad : Ad} : ∀ {a : List (Str × T)} {x : List (Str × V)} {b : List (Str × T)} {y : List (Str × V)}, RpF H ad x a → RpF H ad y b → RpF H ad (x ++ y) (a ++ b)
  | [], x, b, y, h, k => by
    have h : x = [] := h
    subst h
    exact k
  | (f, t) :: a, _, b, y, ⟨v, r, e, h1, h2⟩, k => by
    subst e
    exact ⟨v, r ++ y, rfl, h1, RpF.app h2 k⟩
theorem RpF.zipped {H : Hp} {ad : Ad} : ∀ {fs : List Str} {ts : List T} {vs : List V}, Rps H ad vs ts → RpF H ad (fs.zip vs).reverse (fs.zip ts).reverse
  | [], ts, vs, h => rfl
  | f :: fs, [], vs, h => by
    have h : vs = [] := h
    subst h
    rfl
  | f :: fs, t :: ts, _, ⟨v, r, e, h1, h2⟩ => by
    subst e
    rw [List.zip_cons_cons, List.zip_cons_cons, List.reverse_cons, List.reverse_cons]
    exact RpF.app (RpF.zipped h2) ⟨v, [], rfl, h1, rfl⟩
theorem RpF.look {H : Hp} {ad : Ad} {f : Str} {t : T} : ∀ {a : List (Str × T)} {x : List (Str × V)}, RpF H ad x a → a.lookup f = some t → ∃ v, x.lookup f = some v ∧ Rp H ad v t
  | [], _, _, e => by cases e
  | (h0, t0) :: a, _, ⟨v, r, e1, h1, h2⟩, e => by
    subst e1
    rw [List.lookup_cons] at e ⊢
    cases hb : f == h0 with
    | true =>
      rw [hb] at e
      cases e
      exact ⟨v, rfl, h1⟩
    | false =>
      rw [hb] at e
      exact RpF.look h2 e
theorem hu64m {k : Nat} {A : Around} {h : Option Value} (r : Room k A) : (A.mark h).units + 64 < cLine := r.units
theorem hu65m {k : Nat} {A : Around} {h : Option Value} (r : Room k A) : (A.mark h).units + 65 < cLine := by
  have := r.un
  show A.units + 65 < cLine
  omega
def dRaise (no : Nat) (fs : List Str) (a : D (List SV)) : DS := fun sl cs => (a sl cs).bindS sl fun rs c => match takes rs c with
  | some (ts, c2) => if ts.length = fs.length then .ex ⟨no, (fs.zip ts).reverse⟩ sl c2 else .bad
  | none => .bad
section
variable {X : Cx} {g : G} {W : WX}
theorem ms_raise {no : Nat} {fs : List Str} {x : Str} {e : Expr} {es : List Expr} {p pos pos' : Pos} {d : D (List SV)} (M : MkC X.prog X.w X.K X.mg X.base x (g.cl no) fs) (hc : X.calm = true) (tk : Takes X W) (hr : Room 2 X.A) (hg : Gl X x) (ha : MA g W X (e :: es) d)
    (hdb : (x == ("__debug__" : Str)) = false := by decide) (he : starEach (e :: es) X.env = (false, eval e X.env) :: starEach es X.env := by rfl) (hpl : (backTo pos (starEach es X.env)).any (·.1) = false := by rfl) :
    MS g W X (.Raise (some (.Call (.Name x p) (e :: es) [] pos)) none pos') (dRaise no fs d) :=
  PS.cons (ps_raise hc tk (pmk_own2 M hr (passes_call tk fun _ _ _ _ z => z.elim) hg ha hdb he hpl)) fun Z σ H ⟨sl, cs, ad, S, C, A⟩ => ⟨sl, cs, ad, S, C, AftS.bind (rel := relA g) S A fun vs rs c1 H1 ad1 e1 S1 C1 s1 A1 => by
    cases z : takes rs c1 with
    | none => rw [z] at A1; exact A1.elim
    | some p =>
      obtain ⟨ts, c2⟩ := p
      rw [z] at A1
      simp only at A1
      obtain ⟨ad2, e2, C2, r2⟩ := takes_ok C1 s1 z
      split at A1
      · rename_i hl
        refine ⟨by rw [r2.len]; exact hl, fun dd nd => ?_⟩
        have sm : Same H1 (upd H1 dd (.xd (fs.zip vs).reverse)) := Same.new nd
        exact A1 _ (some dd) σ _ ad2 (e2.trans (Ex.same sm)) ((S1.mono e2).mono (Ex.same sm)) (C2.same sm) ⟨rfl, dd, _, rfl, fun m => C2.live m nd, upd_same, RpF.mono (Ex.same sm) _ _ (RpF.zipped r2)⟩
      · exact A1.elim⟩
/-! try -/
def noX : Option SV → Option SV
  | some (.x _) => none
  | r => r
def clearR (i : Nat) : RS → RS
  | .nx sl c => .nx ((sl.map noX).set i none) c
  | .bk sl c => .bk ((sl.map noX).set i none) c
  | .ct sl c => .ct ((sl.map noX).set i none) c
  | .rt (.x _) _ => .bad
  | .rt r c => .rt r c
  | .ex _ _ _ => .bad
  | .bad => .bad
def dTry (m mx i : Nat) (b b2 : DS) : DS := fun sl cs => match b sl cs with
  | .ex x sl1 cs1 => if x.cls < mx then (if x.cls = m then clearR i (b2 (sl1.set i (some (.x x))) cs1) else .ex x sl1 cs1) else .bad
  | r => r
/-- while an exception is handled -/
def gS (g : G) (a : Addr) (cls : Value) (d : Option Addr) : G := { g with xi := some (a, cls, d) }
theorem sv_in {H : Hp} {ad : Ad} {a : Addr} {cls : Value} {d : Option Addr} (hx : g.xi = none) {v : V} {r : SV} (h : SvR g H ad v r) : SvR (gS g a cls d) H ad v r := by
  cases r with
  | t t => exact h
  | c i => exact h
  | x x =>
    obtain ⟨_, _, _, e, _⟩ := h
    rw [hx] at e
    cases e
theorem st_in {H : Hp} {ad : Ad} {a : Addr} {cls : Value} {d : Option Addr} (hx : g.xi = none) {σ : L2.St} {sl : Sl} (h : StR g H ad σ sl) : StR (gS g a cls d) H ad σ sl :=
  ⟨h.len, fun i r e => let ⟨v, h1, h2⟩ := h.at_ i r e; ⟨v, h1, sv_in hx h2⟩, h.tb⟩
theorem sv_out {H : Hp} {ad : Ad} {a : Addr} {cls : Value} {d : Option Addr} {v : V} {r : SV} (h : SvR (gS g a cls d) H ad v r) (nx : ∀ x, r ≠ .x x) : SvR g H ad v r := by
  cases r with
  | t t => exact h
  | c i => exact h
  | x x => exact absurd rfl (nx x)
theorem st_out {H : Hp} {ad : Ad} {a : Addr} {cls : Value} {d : Option Addr} {i : Nat} {σ : L2.St} {sl : Sl} (h : StR (gS g a cls d) H ad σ sl) : StR g H ad (σ.set i none) ((sl.map noX).set i none) := by
  refine ⟨by simp [h.len], fun j r e => ?_, h.tb⟩
  rw [List.getElem?_set] at e
  by_cases hj : i = j
  · subst hj
    rw [if_pos rfl] at e
    split at e <;> cases e
  · rw [if_neg hj, List.getElem?_map] at e
    cases z : sl[j]? with
    | none => rw [z] at e; cases e
    | some o =>
      rw [z] at e
      have e : noX o = some r := by simpa using e
      cases o with
      | none => cases e
      | some q =>
        cases q with
        | x x => cases e
        | t t =>
          cases e
          obtain ⟨v, h1, h2⟩ := h.at_ j _ z
          exact ⟨v, by rw [List.getElem?_set, if_neg hj]; exact h1, h2⟩
        | c k =>
          cases e
          obtain ⟨v, h1, h2⟩ := h.at_ j _ z
          exact ⟨v, by rw [List.getElem?_set, if_neg hj]; exact h1, h2⟩
theorem ms_try {x n : Str} {c : Value} {i m mx : Nat} {body suite : List Stmt} {b0 : Stmt} {np pos pos' : Pos} {b b2 : DS} (hs : X.stack = X.env :: X.outer) (hf : X.env.frame = some X.env.locals) (hN : X.N.Nodup) (hi : X.N[i]? = some n) (hln : X.env.kindOf n = some .local) (hc : Names X x c) (tk : Takes X W) (hx : g.xi = none)
    (hm : ∀ k, k < mx → PySem.W.exmOne X.K (.ref (g.cl k)) c = some (decide (k = m)))
    (hb : ∀ (W : WX) (pn : List (Addr × Obj)) (xe : Value → Shared → Prop), Takes (X.tr pn xe) W → PassesOwn (model X.prog X.w) X.A X.env xe → MSs g W (X.tr pn xe) body b)
    (hsu : ∀ (a : Addr) (oe : Obj) (cls : Value) (d : Option Addr) (pn : List (Addr × Obj)), Zc cls d oe → (∃ vs, oe.data = .fields vs) → MSs (gS g a cls d) Wf (X.suite a ((a, oe) :: pn)) (b0 :: suite) b2) :
    MS g W X (.Try body [.ExceptHandler (some (.Name x np)) (some n) (b0 :: suite) pos'] [] [] pos) (dTry m mx i b b2) :=
  PS.cons (ps_try_as (tb := fun W => rdS g W b) (ts := fun a cls d => rdS (gS g a cls d) Wf b2) hs hf hN hi hln hc tk hb hsu) fun Z σ H ⟨sl, cs, ad, S, C, A⟩ => ⟨sl, cs, ad, S, C, by
    unfold dTry at A
    cases z : b sl cs with
    | bad => rw [z] at A; exact A.elim
    | nx sl1 c1 => rw [z] at A; exact A
    | rt r c1 => rw [z] at A; exact A
    | bk sl1 c1 => rw [z] at A; exact A
    | ct sl1 c1 => rw [z] at A; exact A
    | ex y sl1 c1 =>
      rw [z] at A
      simp only at A
      intro cls dd σ' H' ad' e' S' C' xr
      split at A
      · rename_i lt
        refine ⟨decide (y.cls = m), by rw [xr.1]; exact hm _ lt, fun ht a na => ?_, fun hF => ?_⟩
        · rw [if_pos (of_decide_eq_true ht)] at A
          refine ⟨sl1.set i (some (.x y)), c1, ad', (st_in hx S').set ⟨a, cls, dd, rfl, rfl, xr⟩, C', ?_⟩
          revert A
          cases b2 (sl1.set i (some (.x y))) c1 with
          | bad => exact False.elim
          | ex y2 sl2 c2 => exact False.elim
          | nx sl2 c2 => exact fun A σ2 H2 ad2 e2 S2 C2 => A (σ2.set i none) H2 ad2 (e'.trans e2) (st_out S2) C2
          | bk sl2 c2 => exact fun A σ2 H2 ad2 e2 S2 C2 => A (σ2.set i none) H2 ad2 (e'.trans e2) (st_out S2) C2
          | ct sl2 c2 => exact fun A σ2 H2 ad2 e2 S2 C2 => A (σ2.set i none) H2 ad2 (e'.trans e2) (st_out S2) C2
          | rt r c2 =>
            cases r with
            | x y2 => exact False.elim
            | t t => exact fun A v H2 ad2 e2 C2 s2 => A v H2 ad2 (e'.trans e2) C2 s2
            | c j => exact fun A v H2 ad2 e2 C2 s2 => A v H2 ad2 (e'.trans e2) C2 s2
        · rw [if_neg (of_decide_eq_false hF)] at A
          exact A cls dd σ' H' ad' e' S' C' xr
      · exact A.elim⟩
/-- the same, the exception unnamed -/
def clearO : RS → RS
  | .nx sl c => .nx (sl.map noX) c
  | .bk sl c => .bk (sl.map noX) c
  | .ct sl c => .ct (sl.map noX) c
  | .rt (.x _) _ => .bad
  | .rt r c => .rt r c
  | .ex _ _ _ => .bad
  | .bad => .bad
def dTryO (m mx : Nat) (b b2 : DS) : DS := fun sl cs => match b sl cs with
  | .ex x sl1 cs1 => if x.cls < mx then (if x.cls = m then clearO (b2 sl1 cs1) else .ex x sl1 cs1) else .bad
  | r => r
theorem st_outO {H : Hp} {ad : Ad} {a : Addr} {cls : Value} {d : Option Addr} {σ : L2.St} {sl : Sl} (h : StR (gS g a cls d) H ad σ sl) : StR g H ad σ (sl.map noX) := by
  refine ⟨by simp [h.len], fun j r e => ?_, h.tb⟩
  rw [List.getElem?_map] at e
  cases z : sl[j]? with
  | none => rw [z] at e; cases e
  | some o =>
    rw [z] at e
    have e : noX o = some r := by simpa using e
    cases o with
    | none => cases e
    | some q =>
      cases q with
      | x x => cases e
      | t t => cases e; exact h.at_ j _ z
      | c k => cases e; exact h.at_ j _ z
theorem ms_tryO {x : Str} {c : Value} {m mx : Nat} {body suite : List Stmt} {b0 : Stmt} {np pos pos' : Pos} {b b2 : DS} (hs : X.stack = X.env :: X.outer) (hf : X.env.frame = some X.env.locals) (hc : Names X x c) (tk : Takes X W) (hx : g.xi = none)
    (hm : ∀ k, k < mx → PySem.W.exmOne X.K (.ref (g.cl k)) c = some (decide (k = m)))
    (hb : ∀ (W : WX) (pn : List (Addr × Obj)) (xe : Value → Shared → Prop), Takes (X.tr pn xe) W → PassesOwn (model X.prog X.w) X.A X.env xe → MSs g W (X.tr pn xe) body b)
    (hsu : ∀ (a : Addr) (oe : Obj) (cls : Value) (d : Option Addr) (pn : List (Addr × Obj)), Zc cls d oe → (∃ vs, oe.data = .fields vs) → MSs (gS g a cls d) Wf (X.suite a ((a, oe) :: pn)) (b0 :: suite) b2) :
    MS g W X (.Try body [.ExceptHandler (some (.Name x np)) none (b0 :: suite) pos'] [] [] pos) (dTryO m mx b b2) :=
  PS.cons (ps_try_only (tb := fun W => rdS g W b) (ts := fun a cls d => rdS (gS g a cls d) Wf b2) hs hf hc tk hb hsu) fun Z σ H ⟨sl, cs, ad, S, C, A⟩ => ⟨sl, cs, ad, S, C, by
    unfold dTryO at A
    cases z : b sl cs with
    | bad => rw [z] at A; exact A.elim
    | nx sl1 c1 => rw [z] at A; exact A
    | rt r c1 => rw [z] at A; exact A
    | bk sl1 c1 => rw [z] at A; exact A
    | ct sl1 c1 => rw [z] at A; exact A
    | ex y sl1 c1 =>
      rw [z] at A
      simp only at A
      intro cls dd σ' H' ad' e' S' C' xr
      split at A
      · rename_i lt
        refine ⟨decide (y.cls = m), by rw [xr.1]; exact hm _ lt, fun ht a na => ?_, fun hF => ?_⟩
        · rw [if_pos (of_decide_eq_true ht)] at A
          refine ⟨sl1, c1, ad', st_in hx S', C', ?_⟩
          revert A
          cases b2 sl1 c1 with
          | bad => exact False.elim
          | ex y2 sl2 c2 => exact False.elim
          | nx sl2 c2 => exact fun A σ2 H2 ad2 e2 S2 C2 => A σ2 H2 ad2 (e'.trans e2) (st_outO S2) C2
          | bk sl2 c2 => exact fun A σ2 H2 ad2 e2 S2 C2 => A σ2 H2 ad2 (e'.trans e2) (st_outO S2) C2
          | ct sl2 c2 => exact fun A σ2 H2 ad2 e2 S2 C2 => A σ2 H2 ad2 (e'.trans e2) (st_outO S2) C2
          | rt r c2 =>
            cases r with
            | x y2 => exact False.elim
            | t t => exact fun A v H2 ad2 e2 C2 s2 => A v H2 ad2 (e'.trans e2) C2 s2
            | c j => exact fun A v H2 ad2 e2 C2 s2 => A v H2 ad2 (e'.trans e2) C2 s2
        · rw [if_neg (of_decide_eq_false hF)] at A
          exact A cls dd σ' H' ad' e' S' C' xr
      · exact A.elim⟩
/-! e.f -/
def dXf (m : Nat) (f : Str) (a : D SV) : D SV := fun sl cs => (a sl cs).bind fun r c => match r with
  | .x x => if x.cls = m then (match x.flds.lookup f with
    | some t => .ok (.t t) c
    | none => .bad) else .bad
  | _ => .bad
theorem m_xf {m : Nat} {a : Addr} {oe : Obj} {cls : Value} {d : Option Addr} {pn : List (Addr × Obj)} {e : Expr} {k : D SV} {pos : Pos} {n : Str} (T : XfC X.K (g.cl m)) (hno : PySem.W.findIn X.K (.ref (g.cl m)) n = some none) (hz : Zc cls d oe) (hf : ∃ vs, oe.data = .fields vs)
    (he : ME (gS g a cls d) W (X.suite a ((a, oe) :: pn)) e k) (hb : attributeBase e n X.env (eval e X.env) = eval e X.env := by rfl) : ME (gS g a cls d) W (X.suite a ((a, oe) :: pn)) (.Attribute e n pos) (dXf m n k) :=
  PE.cons (pe_xf T hno hz hf he hb) fun σ H Q ⟨sl, cs, ad, S, C, A⟩ => ⟨sl, cs, ad, S, C, Aft.bind (rel := relE (gS g a cls d)) A fun v r c1 H1 ad1 e1 C1 s1 A1 => by
    cases r with
    | t t => exact A1.elim
    | c i => exact A1.elim
    | x x =>
      simp only at A1
      split at A1
      · rename_i hm
        cases z : x.flds.lookup n with
        | none => rw [z] at A1; exact A1.elim
        | some t =>
          rw [z] at A1
          obtain ⟨a', cls', dd', q1, q2, q3, dx, fs, q4, q5, q6, q7⟩ := s1
          have q1 : some (a, cls, d) = some (a', cls', dd') := q1
          cases q1
          obtain ⟨w, h1, h2⟩ := RpF.look q7 z
          exact ⟨q2, by rw [q3, hm]; rfl, dx, fs, w, q4, q6, h1, A1 w H1 ad1 Ex.refl C1 h2⟩
      · exact A1.elim⟩
end
end Mi
set_option Elab.async false
set_option linter.all false
set_option autoImplicit false
set_option maxRecDepth 100000
set_option maxHeartbeats 2000000
namespace Mi
open PySem PySem.Spec PyProof.Rows L2
variable [TbC]
/-! ### the law: draw = [script[:63], 0, 0], then the rest by its meaning -/
def lawS (n : Nat) : Sl := none :: some (.c 0) :: List.replicate n none
def lawC (ns : List Int) : Cs := [.lst [.list (ns.map PyData.int), .int 0, .int 0]]
/-- .. with a table of code objects, empty yet -/
def spLawM (K : PySem.W.Frag) (n : Nat) (body : DS) : Sp := fun vs H Q E => ∃ (a : Addr) (ns : List Int), vs = [V.ref a] ∧ SqL K H a (ns.map V.int) ∧ ns.length ≤ 63 ∧ (∀ P q, TbC.tb = some (P, q) → H P = some (.tbl #[])) ∧ (∃ cs', body (lawS n) (lawC ns) = .rt (.t (.bool true)) cs') ∧ ∀ H', Q (.bl true) H'
theorem sIx63 {n : List Int} (h : n.length ≤ 63) : HT.sIx n.length n.length (some 63) = n.length := by
  unfold HT.sIx
  simp
  omega
theorem rps_ints {H : Hp} {ad : Ad} : ∀ (ns : List Int), Rps H ad (ns.map V.int) (ns.map PyData.int)
  | [] => rfl
  | n :: ns => ⟨_, _, rfl, rfl, rps_ints ns⟩
section
variable {g : G} {P : Program} {w : World} {K : PySem.W.Frag} {mg : Str → Option Value} {base : Heap} {st : Stmt} {N' : List Str} {k : Nat} {rest : List Stmt} {body : DS}
theorem law_go {p1 p2 p3 p4 p5 p6 p7 p8 p9 : Pos} {j1 j2 j3} {f : Addr} {cdv : Value} {A : Around} {outer : List Env} {s : Shared} {H : Hp} {vs : List V} {Q : VK} {E : XK} (S : FnScope ("script" :: "draw" :: N') ["script"] (defScope st))
    (h0 : (defScope st).names.lookup ("script" : Str) = some NameKind.local) (h1 : (defScope st).names.lookup ("draw" : Str) = some NameKind.local)
    (hb : defBody st = .Assign [.Name "draw" p1] (.List [.Subscript (.Name "script" p2) (.Slice none (some (.Constant (.int 63) j1 p3)) none p4) p5, .Constant (.int 0) j2 p6, .Constant (.int 0) j3 p7] p8) p9 :: rest)
    (hms : MSs (g0 g) (fun cls d _ H => E cls d H) (cxOf (L2.CX P w) P w K mg base ("script" :: "draw" :: N') "law" (defScope st) f cdv A outer s H E) rest body) (h : spLawM K N'.length body vs H Q E) :
    ∃ t, PSs (cxOf (L2.CX P w) P w K mg base ("script" :: "draw" :: N') "law" (defScope st) f cdv A outer s H E) (defBody st) t ∧ t { nx := fun _ H' => Q .non H', rt := Q } (start ("script" :: "draw" :: N') vs) H := by
  obtain ⟨a, ns, rfl, hq, hl, htb, ⟨cs', run⟩, k⟩ := h
  rw [hb]
  refine ⟨_, pss_cons (ps_set (i := 1) S.nd rfl (Or.inl h1) (pe_lst (pa_cons (pe_slice sl_list (pv 0 rfl (Or.inl h0)) po_none (po_some pe_int)) (pa_cons pe_int (pa_cons pe_int pa_nil)))) rfl (Or.inr h1)) hms, ?_⟩
  refine ⟨.ref a, rfl, 63, rfl, a, ns.map V.int, rfl, hq, fun p np => ?_⟩
  refine ⟨by show 3 ≤ sizeLine; decide, fun q nq => ?_⟩
  have npq : q ≠ p := fun z => by rw [z, upd_same] at nq; cases nq
  have rp : Rps (upd (upd H p (.lst (cutV (ns.map V.int) none (some 63)))) q (.lst [.ref p, .int 0, .int 0])) [some q] (cutV (ns.map V.int) none (some 63)) (ns.map PyData.int) := by
    have c := Rps.cut (rps_ints (H := upd (upd H p (.lst (cutV (ns.map V.int) none (some 63)))) q (.lst [.ref p, .int 0, .int 0])) (ad := [some q]) ns) none (some 63)
    rw [cut_all (ts := ns.map PyData.int) (by rw [List.length_map]; exact ⟨rfl, sIx63 hl⟩)] at c
    exact c
  have tbs : ∀ P n, TbC.tb = some (P, n) → TabC (upd (upd H p (.lst (cutV (ns.map V.int) none (some 63)))) q (.lst [.ref p, .int 0, .int 0])) [some q] P n := by
    intro P n z
    have hP := htb P n z
    have h1 : P ≠ p := fun e => by rw [e, np] at hP; cases hP
    have h2 : P ≠ q := fun e => by
      rw [e] at hP
      rw [upd_ne (fun e2 => h1 (by rw [e, e2]))] at nq
      rw [nq] at hP
      cases hP
    refine ⟨#[], by rw [upd_ne h2, upd_ne h1]; exact hP, True.intro, fun pos cv hc => ?_⟩
    have z : codeAmong pos [] = some cv := hc
    simp [codeAmong] at z
  refine ⟨lawS N'.length, lawC ns, [some q], ⟨by simp [lawS, L2.start], fun i r e => ?_, tbs⟩, ⟨rfl, fun i j b e1 e2 => ?_, fun i o c e1 e2 => ?_⟩, ?_⟩
  · match i, e with
    | 0, e => cases e
    | 1, e =>
      cases e
      exact ⟨.ref q, rfl, Nat.zero_lt_one, fun b e => by cases e; rfl⟩
    | i + 2, e =>
      have e : (List.replicate N'.length (none : Option SV))[i]? = some (some r) := e
      rw [List.getElem?_replicate] at e
      split at e <;> cases e
  · match i, j, e1, e2 with
    | 0, 0, _, _ => rfl
    | i + 1, _, e1, _ => simp at e1
    | 0, j + 1, _, e2 => simp at e2
  · match i, e1, e2 with
    | 0, e1, e2 =>
      cases e1
      cases e2
      refine ⟨[.ref p, .int 0, .int 0], upd_same, .ref p, [.int 0, .int 0], rfl, ⟨p, _, rfl, by rw [upd_ne npq.symm]; exact upd_same, fun m => ?_, rp⟩, _, _, rfl, rfl, _, _, rfl, rfl, rfl⟩
      have m : p = q := by simpa using m
      exact npq m.symm
    | i + 1, e1, _ => simp at e1
  · rw [run]
    exact fun v H' ad' e c s => by
      obtain rfl : v = .bl true := s
      exact k H'
theorem law_of {p1 p2 p3 p4 p5 p6 p7 p8 p9 : Pos} {j1 j2 j3} {f : Addr} {fd : FuncData} (hF : L2.Fun K "law" "law" st f fd) (S : FnScope ("script" :: "draw" :: N') ["script"] (defScope st))
    (h0 : (defScope st).names.lookup ("script" : Str) = some NameKind.local) (h1 : (defScope st).names.lookup ("draw" : Str) = some NameKind.local)
    (hb : defBody st = .Assign [.Name "draw" p1] (.List [.Subscript (.Name "script" p2) (.Slice none (some (.Constant (.int 63) j1 p3)) none p4) p5, .Constant (.int 0) j2 p6, .Constant (.int 0) j3 p7] p8) p9 :: rest)
    (hr : ∀ (cdv : Value) (A : Around) (outer : List Env) (s : Shared) (H : Hp) (E : XK) (f : Addr), Room k (A.deeper (envOfC "law" (defScope st) s.heap.objs.size f cdv)) → MSs (g0 g) (fun cls d _ H => E cls d H) (cxOf (L2.CX P w) P w K mg base ("script" :: "draw" :: N') "law" (defScope st) f cdv A outer s H E) rest body) :
    FnOk P w K mg base (L2.CX P w) (k + 1) f fd ["script"] (spLawM K N'.length body) := by
  refine hF.okX S (fun vs H Q E h => ?_) (fun cdv A outer s H vs Q E hro h => ?_)
  · obtain ⟨a, ns, rfl, _⟩ := h
    rfl
  · exact law_go S h0 h1 hb (hr cdv A outer s H E f hro) h
end
/-! ### what the top has written -/
section
variable {K : PySem.W.Frag} {h : Heap} {mg : Str → Option Value}
theorem dn_of (X : K.In h) (G : h.Ns mainGlobals mg) {x : Str} {st : Stmt} {ps : List Str} {f : Addr} {oc : Value} {od an : Option Addr} {osl : Array (Option Value)} {kV doc pm cdv ct : Value} (a : PySem.W.nsIn K mainGlobals x = some (some (.ref f)))
    (l : K.lookup f = some ⟨oc, od, .func (PySem.W.fnOf x x (defArgs st) (defBody st) (defScope st) .none kV doc pm an cdv ct), osl⟩) (c : PySem.W.codeIn K cdv x = true) (k : PySem.W.keepIn K (.ref f) = true)
    (b : ∀ (kV doc pm : Value) (an : Option Addr) (cdv ct : Value) (us : List Value), us.length = ps.length → bindArgs (PySem.W.fnOf x x (defArgs st) (defBody st) (defScope st) .none kV doc pm an cdv ct) ⟨us, []⟩ = pure (ps.zip us)) : Dn K mg x st ps :=
  ⟨f, _, PySem.W.mg_of X G a, fun_mk l c k, (fun_mk l c k).binds b⟩
theorem oexE_of {C : Addr} (h1 : PySem.W.excInitIn K C exTl "Exception.__new__" = true) (h2 : PySem.W.excOver K C exTl = true) (h3 : PySem.W.hasDictIn K C = true) (h4 : PySem.W.findIn K (.ref C) "__setattr__" = some (some (.builtin "object.__setattr__"))) (h5 : PySem.W.subIn K (.ref C) (.type "BaseException") = some true) (h6 : PySem.W.typeIn K (.ref C) = some (.type "type")) (h7 : PySem.W.keepIn K (.ref C) = true) : OexE K C := ⟨h1, h2, h3, h4, h5, h6, h7⟩
/-- the class's own __init__, as the top has written it -/
structure IniAt (K : PySem.W.Frag) (C : Addr) (qual : Str) (st : Stmt) (ps : List Str) : Prop where
  ex : ∃ f fd, PySem.W.findIn K (.ref C) "__init__" = some (some (.ref f)) ∧ PySem.W.typeIn K (.ref f) = some (.type "function") ∧ L2.Fun K "__init__" qual st f fd ∧ Binds K fd ps []
theorem ini_of {C : Addr} {qual : Str} {st : Stmt} {ps : List Str} {f : Addr} {oc : Value} {od an : Option Addr} {osl : Array (Option Value)} {kV doc pm cdv ct : Value} (a : PySem.W.findIn K (.ref C) "__init__" = some (some (.ref f))) (t : PySem.W.typeIn K (.ref f) = some (.type "function"))
    (l : K.lookup f = some ⟨oc, od, .func (PySem.W.fnOf "__init__" qual (defArgs st) (defBody st) (defScope st) .none kV doc pm an cdv ct), osl⟩) (c : PySem.W.codeIn K cdv qual = true) (k : PySem.W.keepIn K (.ref f) = true)
    (b : ∀ (kV doc pm : Value) (an : Option Addr) (cdv ct : Value) (us : List Value), us.length = ps.length → bindArgs (PySem.W.fnOf "__init__" qual (defArgs st) (defBody st) (defScope st) .none kV doc pm an cdv ct) ⟨us, []⟩ = pure (ps.zip us)) : IniAt K C qual st ps :=
  ⟨f, _, a, t, fun_mk l c k, (fun_mk l c k).binds b⟩
theorem const_of (X : K.In h) (G : h.Ns mainGlobals mg) {x : Str} {u : Value} {v : V} (a : PySem.W.nsIn K mainGlobals x = some (some u)) (r : L2.RelV v u) : ∃ u, mg x = some u ∧ L2.RelV v u := ⟨u, PySem.W.mg_of X G a, r⟩
theorem mkC1 {h : Heap} {mg : Str → Option Value} (X : K.In h) (G : h.Ns mainGlobals mg) {C : Addr} {x qual f1 : Str} {st : Stmt} {p1 p2 p3 p4 : Pos} (T : OexE K C) (a : PySem.W.nsIn K mainGlobals x = some (some (.ref C))) (n1 : PySem.W.findIn K (.ref C) f1 = some none) (I : IniAt K C qual st ["self", f1])
    (S : FnScope ["self", f1] ["self", f1] (defScope st)) (hs : (defScope st).names.lookup ("self" : Str) = some NameKind.local) (h1 : (defScope st).names.lookup f1 = some NameKind.local) (d1 : (f1 == ("__debug__" : Str)) = false) (c1 : (f1 == ("__classdict__" : Str)) = false)
    (hb : defBody st = [.Assign [.Attribute (.Name "self" p1) f1 p2] (.Name f1 p3) p4]) (P : Program) (w : World) (base : Heap) : MkC P w K mg base x C [f1] := by
  obtain ⟨f, fd, e1, e2, F, B⟩ := I
  exact ⟨T, PySem.W.mg_of X G a, fun f hf => by
    obtain rfl : f = f1 := by simpa using hf
    exact n1, by show 1 ≤ 900; decide, f, fd, e1, e2, B, ini1 (p5 := p4) F S hs h1 d1 c1 hb⟩
theorem mkC2 {h : Heap} {mg : Str → Option Value} (X : K.In h) (G : h.Ns mainGlobals mg) {C : Addr} {x qual f1 f2 : Str} {st : Stmt} {p1 p2 p3 p4 p5 p6 p7 p8 : Pos} (T : OexE K C) (a : PySem.W.nsIn K mainGlobals x = some (some (.ref C))) (n1 : PySem.W.findIn K (.ref C) f1 = some none) (n2 : PySem.W.findIn K (.ref C) f2 = some none) (I : IniAt K C qual st ["self", f1, f2])
    (S : FnScope ["self", f1, f2] ["self", f1, f2] (defScope st)) (hs : (defScope st).names.lookup ("self" : Str) = some NameKind.local) (h1 : (defScope st).names.lookup f1 = some NameKind.local) (h2 : (defScope st).names.lookup f2 = some NameKind.local) (d1 : (f1 == ("__debug__" : Str)) = false) (c1 : (f1 == ("__classdict__" : Str)) = false) (d2 : (f2 == ("__debug__" : Str)) = false) (c2 : (f2 == ("__classdict__" : Str)) = false)
    (hb : defBody st = [.Assign [.Attribute (.Name "self" p1) f1 p2] (.Name f1 p3) p4, .Assign [.Attribute (.Name "self" p5) f2 p6] (.Name f2 p7) p8]) (P : Program) (w : World) (base : Heap) : MkC P w K mg base x C [f1, f2] := by
  obtain ⟨f, fd, e1, e2, F, B⟩ := I
  exact ⟨T, PySem.W.mg_of X G a, fun f hf => by
    simp only [List.mem_cons, List.not_mem_nil, or_false] at hf
    rcases hf with rfl | rfl
    · exact n1
    · exact n2, by show 2 ≤ 900; decide, f, fd, e1, e2, B, ini2 F S hs h1 h2 d1 c1 d2 c2 hb⟩
/-- two classes of errors by their places -/
def g2 (a b : Addr) : G := ⟨fun n => match n with
  | 0 => a
  | _ => b, none⟩
theorem below2 {p : Nat → Prop} (h0 : p 0) (h1 : p 1) : ∀ k, k < 2 → p k
  | 0, _ => h0
  | 1, _ => h1
  | k + 2, h => absurd h (by omega)
/-- three classes of errors by their places -/
def g3 (a b c : Addr) : G := ⟨fun n => match n with
  | 0 => a
  | 1 => b
  | _ => c, none⟩
theorem below3 {p : Nat → Prop} (h0 : p 0) (h1 : p 1) (h2 : p 2) : ∀ k, k < 3 → p k
  | 0, _ => h0
  | 1, _ => h1
  | 2, _ => h2
  | k + 3, h => absurd h (by omega)
end
/-- the law's own head, from the promise of its def and the run of its meaning -/
theorem walkM {l : PySem.W.OpenLaw} {k n : Nat} {body : DS} {q : Program} {loose : List Str} {XP : (Str → Option Value) → Heap → Prop} {YP : World → Heap → Prop} {d : DefRec} {K : Params → PySem.W.Frag} (hn : l.most = some 63) (hdf : d.params.defaults = []) (hd : d.name = "law") (hr : Room k callerA)
    (hY : ∀ (w : World) (h : Heap), YP w h → (K w.params).In h)
    (F : ∀ (w : World) (mg : Str → Option Value) (h : Heap), (K w.params).In h → h.Ns mainGlobals mg → ∃ f fd, mg "law" = some (.ref f) ∧ (∀ (s : Shared) (u : Value), BindsTo s fd ⟨[u], []⟩ [("script", u)]) ∧ ∀ base : Heap, (K w.params).In base → base.Ns mainGlobals mg → FnOk l.prog w (K w.params) mg base (L2.CX l.prog w) k f fd ["script"] (spLawM (K w.params) n body))
    (h0 : (TbC.tb : Option (Addr × Str)) = none) (pure : ∀ ns : List Int, ns.length ≤ 63 → ∃ cs', body (lawS n) (lawC ns) = .rt (.t (.bool true)) cs') :
    PySem.W.WalkO q loose XP YP l.row.toRowW d [] (fun f vs => PySem.call f vs) := by
  refine L2.walk_of (n := 63) (k := k) (x := "script") (CX := fun w => L2.CX l.prog w) (sp := fun w => spLawM (K w.params) n body) hn (by decide) hdf hr hY (fun w mg fa h X G e => ?_) (fun _ _ a ns hl _ hS => ⟨a, ns, rfl, hS, hl, (by intro _ _ z; rw [h0] at z; cases z), pure ns hl, fun _ => rfl⟩) fun w H s e s' c => ?_
  · obtain ⟨f, fd, hm, hb, hF⟩ := F w mg h X G
    rw [hd, hm] at e
    cases e
    exact ⟨fd, hb, hF⟩
  · obtain ⟨_, _, _, _, _, _, _, _, _, _, _, _, z⟩ := c
    exact z
end Mi
set_option Elab.async false
set_option linter.all false
set_option autoImplicit false
set_option maxRecDepth 100000
set_option maxHeartbeats 1000000
namespace Mi
open PySem PySem.Spec PyProof.Rows L2 LamX
variable [TbC]
/-! ### a def that calls a lambda and tells what it raised: try, two handlers, else -/
def TTr (K : PySem.W.Frag) (C0 C1 : Addr) (a b c : Str) : (XK → Hp → VK → Prop) → Hp → VK → Prop := fun tl H Q =>
  tl (fun cls _ H' => ∃ b0, PySem.W.exmOne K cls (.ref C0) = some b0 ∧ (b0 = true → Q (.str a) H') ∧ (b0 = false → ∃ b1, PySem.W.exmOne K cls (.ref C1) = some b1 ∧ (b1 = true → Q (.str b) H') ∧ (b1 = false → False))) H fun _ H' => Q (.str c) H'
theorem raised_gives {X : Cx} {Ng : List Str} {x a e0 e1 q r0 r1 r2 : Str} {sg : Scope} {g C0 C1 : Addr} {cdg : Value} {j0 j1 j2} {p1 p2 p3 p4 p5 p6 p7 p8 p9 p10 p11 p12 p13 p14 : Pos}
    (h0e : sg.names.lookup e0 = some .globalImplicit) (h0m : X.mg e0 = some (.ref C0)) (h0d : (e0 == ("__debug__" : Str)) = false) (h1e : sg.names.lookup e1 = some .globalImplicit) (h1m : X.mg e1 = some (.ref C1)) (h1d : (e1 == ("__debug__" : Str)) = false)
    (h0 : ∀ f : Addr, (L2.start Ng [V.ref f])[0]? = some (some (V.ref f))) :
    GivesTo X Ng x sg g cdg [.Try [.Expr (.Call (.Name a p1) [] [] p2) p3] [.ExceptHandler (some (.Name e0 p4)) none [.Return (some (.Constant (.str r0) j0 p5)) p6] p7, .ExceptHandler (some (.Name e1 p8)) none [.Return (some (.Constant (.str r1) j1 p9)) p10] p11] [.Return (some (.Constant (.str r2) j2 p12)) p13] [] p14] a q (TTr X.K C0 C1 r0 r1 r2) := by
  intro f c' s H Q tl act hc h
  have hgl0 : Gl (cxOf C8.CX0 X.prog X.w X.K X.mg X.base Ng x sg g cdg X.A X.stack s H C8.E0).nox e0 := h0e
  have hgl1 : Gl (cxOf C8.CX0 X.prog X.w X.K X.mg X.base Ng x sg g cdg X.A X.stack s H C8.E0).nox e1 := h1e
  refine ⟨_, pss_one (ps_try_manyE (X := (cxOf C8.CX0 X.prog X.w X.K X.mg X.base Ng x sg g cdg X.A X.stack s H C8.E0).nox)
      (tb := fun W D σ H => ∃ Ech : XK, (∀ cls d σ' H', Ech cls d H' → W cls d σ' H') ∧ σ[0]? = some (some (.ref f)) ∧ H c' = some (CodeO c' q) ∧ tl Ech H fun _ H1 => D.nx σ H1)
      (pss_one (ps_ret pe_str)) rfl rfl LamX.takes0 (fun W pn xe tk _ => ?_) (.cons ⟨hgl0, h0d, .inl h0m⟩ (fun a oe cls d pn _ _ => pss_one (ps_ret pe_str)) (.cons ⟨hgl1, h1d, .inl h1m⟩ (fun a oe cls d pn _ _ => pss_one (ps_ret pe_str)) .nil))), ?_⟩
  · refine ⟨fun pins s' σ H' D I h' => ?_⟩
    obtain ⟨Ech, hW, h1, h2, h3⟩ := h'
    have hp := act W pn xe Ech p1 p2 tk hW
    have hq := pss_one (ps_expr (pos := p3) hp)
    exact hq.run pins s' σ H' D I ⟨h1, h2, h3⟩
  · refine ⟨fun cls _ H' => ∃ b0, PySem.W.exmOne X.K cls (.ref C0) = some b0 ∧ (b0 = true → Q (.str r0) H') ∧ (b0 = false → ∃ b1, PySem.W.exmOne X.K cls (.ref C1) = some b1 ∧ (b1 = true → Q (.str r1) H') ∧ (b1 = false → False)), fun cls d σ' H' ⟨b, e1, e2, e3⟩ => ⟨b, e1, fun hb a _ => e2 hb, fun hb => ?_⟩, h0 f, hc, h⟩
    obtain ⟨b1, f1, f2, f3⟩ := e3 hb
    exact ⟨b1, f1, fun hb a _ => f2 hb, fun hb => f3 hb⟩
def dRaised (mx : Nat) (r0 r1 r2 : Str) (d : D SV) : D SV := fun sl cs => match d sl cs with
  | .ok _ c => .ok (.t (.str r2)) c
  | .ex x c => if x.cls < mx then (if x.cls = 0 then .ok (.t (.str r0)) c else if x.cls = 1 then .ok (.t (.str r1)) c else .bad) else .bad
  | .bad => .bad
/-- a def of one parameter, as the top has written it -/
def Rz (K : PySem.W.Frag) (mg : Str → Option Value) (x : Str) (st : Stmt) (a : Str) : Prop :=
  ∃ (g : Addr) (oc : Value) (od an : Option Addr) (osl : Array (Option Value)) (kV doc pm cdv ct : Value), mg x = some (.ref g) ∧ K.lookup g = some ⟨oc, od, .func (PySem.W.fnOf x x (defArgs st) (defBody st) (defScope st) .none kV doc pm an cdv ct), osl⟩ ∧
    PySem.W.codeIn K cdv x = true ∧ PySem.W.keepIn K (.ref g) = true ∧ Binds K (PySem.W.fnOf x x (defArgs st) (defBody st) (defScope st) .none kV doc pm an cdv ct) [a] []
theorem CsR.inLst {H : Hp} {ad : Ad} {cs : Cs} {a : Addr} (c : CsR H ad cs) (m : some a ∈ ad) : (∃ xs, H a = some (.lst xs)) ∨ ∃ kk, H a = some (.dK kk) := by
  obtain ⟨j, ha⟩ := List.mem_iff_getElem?.mp m
  have hl : j < cs.length := by rw [← c.len]; exact (List.getElem?_eq_some_iff.mp ha).1
  have q := c.cell j _ cs[j] ha (by simp [hl])
  cases e : cs[j] with
  | dead => rw [e] at q; exact q.elim
  | lst ts => rw [e] at q; obtain ⟨xs, h1, _⟩ := q; exact .inl ⟨xs, h1⟩
  | lock ts => rw [e] at q; obtain ⟨xs, h1, _⟩ := q; exact .inl ⟨xs, h1⟩
  | dct ts => rw [e] at q; obtain ⟨xs, h1, _⟩ := q; exact .inr ⟨xs, h1⟩
theorem exLam {H H1 : Hp} {ad : Ad} {cs : Cs} {P : Addr} {q : Str} (C : CsR H ad cs) (htb : TbC.tb = some (P, q)) (eN : ExtN H H1) (T1 : Tabs [(P, q)] H1) : Ex H ad H1 ad ∧ CsR H1 ad cs := by
  have e : Ex H ad H1 ad := by
    refine ⟨fun a o z n t => eN a o z t, fun P' q' z _ => ?_, fun a ⟨o, h1, h2⟩ => ⟨o, eN a o h1 h2, h2⟩, Nat.le_refl _, fun _ _ z _ => z, fun i a z hl => ?_⟩
    · rw [htb] at z
      cases z
      obtain ⟨ps, h1, h2, h3⟩ := T1 (P, q) (by simp)
      refine ⟨ps, h1, h2, fun pos cv hc => ?_⟩
      obtain ⟨c, e1, e2⟩ := h3 pos cv hc
      refine ⟨c, e1, e2, fun m => ?_⟩
      rcases C.inLst m with ⟨xs, w⟩ | ⟨xs, w⟩
      · have w1 := eN c _ w (fun _ z => by cases z)
        rw [e2] at w1
        cases w1
      · have w1 := eN c _ w (fun _ z => by cases z)
        rw [e2] at w1
        cases w1
    · have := (List.getElem?_eq_some_iff.mp z).1
      omega
  refine ⟨e, C.len, C.inj, fun i o c z1 z2 => Cl.later e (fun a ha u hu => ?_) (C.cell i o c z1 z2)⟩
  subst ha
  rcases C.inLst (List.mem_iff_getElem?.mpr ⟨i, z1⟩) with ⟨xs, w⟩ | ⟨xs, w⟩
  · rw [w] at hu
    cases hu
    exact eN a _ w (fun _ z => by cases z)
  · rw [w] at hu
    cases hu
    exact eN a _ w (fun _ z => by cases z)
theorem m_raised {g : G} {W : WX} {X : Cx} {x a e0 e1 r0 r1 r2 : Str} {st : Stmt} {C0 C1 c P : Addr} {k mx : Nat} {params : Arguments} {body : Expr} {scope : Scope} {lpos p pos : Pos} {d : D SV} {j0 j1 j2} {p1 p2 p3 p4 p5 p6 p7 p8 p9 p10 p11 p12 p13 p14 : Pos} (R : Rz X.K X.mg x st a)
    (hbd : defBody st = [.Try [.Expr (.Call (.Name a p1) [] [] p2) p3] [.ExceptHandler (some (.Name e0 p4)) none [.Return (some (.Constant (.str r0) j0 p5)) p6] p7, .ExceptHandler (some (.Name e1 p8)) none [.Return (some (.Constant (.str r1) j1 p9)) p10] p11] [.Return (some (.Constant (.str r2) j2 p12)) p13] [] p14])
    (Sg : FnScope [a] [a] (defScope st)) (hva : Vis (defScope st) a) (h0e : (defScope st).names.lookup e0 = some .globalImplicit) (h0m : X.mg e0 = some (.ref C0)) (h0d : (e0 == ("__debug__" : Str)) = false) (h1e : (defScope st).names.lookup e1 = some .globalImplicit) (h1m : X.mg e1 = some (.ref C1)) (h1d : (e1 == ("__debug__" : Str)) = false)
    (hx0 : ∀ k, k < mx → PySem.W.exmOne X.K (.ref (g.cl k)) (.ref C0) = some (decide (k = 0))) (hx1 : ∀ k, k < mx → PySem.W.exmOne X.K (.ref (g.cl k)) (.ref C1) = some (decide (k = 1)))
    (hg : Gl X x) (TB : TabB X.base X.mg c P) (hcode : X.env.code = .ref c) (htb : TbC.tb = some (P, X.env.qual ++ "<lambda>")) (hr : Room (k + 2) X.A) (L : LamS X.env.scope scope) (hdef : defaultsOf params X.env = ([], []))
    (hbind : ∀ (q : Str) (cl : List (Str × Addr)) (pm cv ctv : Value), bindArgs (PySem.W.kla_fn "<lambda>" q params body scope cl pm cv ctv) ⟨[], []⟩ = pure [])
    (hbody : ∀ (A : Around) (outer : List Env) (s : Shared) (H : Hp) (E : XK) (f c' : Addr), Room k (A.deeper (lamEnv X scope s.heap.objs.size f c')) → ME g (fun cls dd _ H => E cls dd H) (lamCx X A outer s H E scope f c') body d)
    (hdb : (x == ("__debug__" : Str)) = false := by decide) (hd : (a == ("__debug__" : Str)) = false := by decide) (hcd : (a == ("__classdict__" : Str)) = false := by decide) :
    ME g W X (.Call (.Name x p) [.Lambda params body scope lpos] [] pos) (dRaised mx r0 r1 r2 d) := by
  obtain ⟨ga, oc, od, an, osl, kV, doc, pm, cdv, ct, hm, lk, hcg, hk, hb⟩ := R
  have hG : GivesTo X [a] x (defScope st) ga cdv (defBody st) a (X.env.qual ++ "<lambda>") (TTr X.K C0 C1 r0 r1 r2) := by
    rw [hbd]
    exact raised_gives h0e h0m h0d h1e h1m h1d (fun f => rfl)
  refine PE.cons (pe_lamcall (T := [(P, X.env.qual ++ "<lambda>")]) (TT := TTr X.K C0 C1 r0 r1 r2) (t := fun E => rd g (fun cls dd _ H => E cls dd H) (relE g) d) hg hm hk lk hcg hb Sg rfl hva hG TB hcode (by simp) (fun p hp _ => by
    rw [List.mem_singleton] at hp
    rw [hp]) hr L hdef hbind hbody hdb hd hcd) fun σ H Q hw => ?_
  obtain ⟨sl, cs, ad, S, C, A⟩ := hw
  refine ⟨fun p hp => ?_, fun H1 eN T1 => ?_⟩
  · rw [List.mem_singleton] at hp
    subst hp
    obtain ⟨ps, h1, h2, h3⟩ := S.tb _ _ htb
    refine ⟨ps, h1, h2, fun pos cv hc => ?_⟩
    obtain ⟨c, e1, e2, _⟩ := h3 pos cv hc
    exact ⟨c, e1, e2⟩
  · obtain ⟨e, C1'⟩ := exLam C htb eN T1
    refine ⟨sl, cs, ad, S.mono e, C1', ?_⟩
    unfold dRaised at A
    revert A
    cases d sl cs with
    | bad => exact id
    | ok r c1 => exact fun A b H' ad' e' c' _ => A (.str r2) H' ad' (e.trans e') c' rfl
    | ex y c1 =>
      intro A cls dd H' ad' e' c' xr
      simp only at A
      split at A
      · rename_i lt
        refine ⟨decide (y.cls = 0), by rw [xr.1]; exact hx0 _ lt, fun z => ?_, fun z => ⟨decide (y.cls = 1), by rw [xr.1]; exact hx1 _ lt, fun z2 => ?_, fun z2 => ?_⟩⟩
        · rw [if_pos (of_decide_eq_true z)] at A
          exact A (.str r0) H' ad' (e.trans e') c' rfl
        · rw [if_neg (of_decide_eq_false z), if_pos (of_decide_eq_true z2)] at A
          exact A (.str r1) H' ad' (e.trans e') c' rfl
        · rw [if_neg (of_decide_eq_false z), if_neg (of_decide_eq_false z2)] at A
          exact A
      · exact A.elim
theorem takes_lam {X : Cx} {A : Around} {outer : List Env} {s : Shared} {H : Hp} {E : XK} {scope : Scope} {f c' : Addr} : Takes (lamCx X A outer s H E scope f c') (fun cls d _ H => E cls d H) := takes_of rfl rfl rfl rfl
end Mi
set_option Elab.async false
set_option linter.all false
set_option autoImplicit false
set_option maxRecDepth 100000
set_option maxHeartbeats 1000000
namespace Mi
open PySem PySem.Spec PyProof.Rows L2 LamX
/-! ### a law that holds lambdas -/
section
variable [TbC] {g : G} {P : Program} {w : World} {K : PySem.W.Frag} {mg : Str → Option Value} {base : Heap} {st : Stmt} {N' : List Str} {k : Nat} {rest : List Stmt} {body : DS}
theorem law_ofC {p1 p2 p3 p4 p5 p6 p7 p8 p9 : Pos} {j1 j2 j3} {f c : Addr} {oc : Value} {od an : Option Addr} {osl : Array (Option Value)} {kV doc pm ct : Value} (lk : K.lookup f = some ⟨oc, od, .func (PySem.W.fnOf "law" "law" (defArgs st) (defBody st) (defScope st) .none kV doc pm an (.ref c) ct), osl⟩) (hcd : PySem.W.codeIn K (.ref c) "law" = true)
    (S : FnScope ("script" :: "draw" :: N') ["script"] (defScope st))
    (h0 : (defScope st).names.lookup ("script" : Str) = some NameKind.local) (h1 : (defScope st).names.lookup ("draw" : Str) = some NameKind.local)
    (hb : defBody st = .Assign [.Name "draw" p1] (.List [.Subscript (.Name "script" p2) (.Slice none (some (.Constant (.int 63) j1 p3)) none p4) p5, .Constant (.int 0) j2 p6, .Constant (.int 0) j3 p7] p8) p9 :: rest)
    (hr : ∀ (A : Around) (outer : List Env) (s : Shared) (H : Hp) (E : XK), Room k (A.deeper (envOfC "law" (defScope st) s.heap.objs.size f (.ref c))) → MSs (g0 g) (fun cls d _ H => E cls d H) (cxOf (L2.CX P w) P w K mg base ("script" :: "draw" :: N') "law" (defScope st) f (.ref c) A outer s H E) rest body) :
    FnOk P w K mg base (L2.CX P w) (k + 1) f (PySem.W.fnOf "law" "law" (defArgs st) (defBody st) (defScope st) .none kV doc pm an (.ref c) ct) ["script"] (spLawM K N'.length body) := by
  refine fn_of lk hcd S (fun vs H Q E h => ?_) (fun A outer s H vs Q E hro h => ?_)
  · obtain ⟨a, ns, rfl, _⟩ := h
    rfl
  · exact law_go S h0 h1 hb (hr A outer s H E hro) h
end
theorem rz_of {K : PySem.W.Frag} {h : Heap} {mg : Str → Option Value} (X : K.In h) (G : h.Ns mainGlobals mg) {x y : Str} {st : Stmt} {f : Addr} {oc : Value} {od an : Option Addr} {osl : Array (Option Value)} {kV doc pm cdv ct : Value} (a : PySem.W.nsIn K mainGlobals x = some (some (.ref f)))
    (l : K.lookup f = some ⟨oc, od, .func (PySem.W.fnOf x x (defArgs st) (defBody st) (defScope st) .none kV doc pm an cdv ct), osl⟩) (c : PySem.W.codeIn K cdv x = true) (k : PySem.W.keepIn K (.ref f) = true)
    (b : ∀ (kV doc pm : Value) (an : Option Addr) (cdv ct : Value) (us : List Value), us.length = [y].length → bindArgs (PySem.W.fnOf x x (defArgs st) (defBody st) (defScope st) .none kV doc pm an cdv ct) ⟨us, []⟩ = pure ([y].zip us)) : Rz K mg x st y :=
  ⟨f, oc, od, an, osl, kV, doc, pm, cdv, ct, PySem.W.mg_of X G a, l, c, k, (fun_mk l c k).binds b⟩
/-- what stands of the law's own code -/
def LawTab (l : PySem.W.OpenLaw) (w : World) (K : PySem.W.Frag) (mg : Str → Option Value) (k n : Nat) (body : DS) : Prop :=
  ∃ (f c P : Addr) (fd : FuncData) (o : Obj) (e : Value) (dd : Option Addr) (vs : Array Value) (sl : Array (Option Value)), mg "law" = some (.ref f) ∧ (∀ (s : Shared) (u : Value), BindsTo s fd ⟨[u], []⟩ [("script", u)]) ∧ K.lookup f = some o ∧ o.data = .func fd ∧ fd.code = .ref c ∧
    K.lookup c = some ⟨e, dd, .fields vs, sl⟩ ∧ vs[11]? = some (.ref P) ∧ K.lookup P = none ∧ PySem.W.codeHdIn K c P = true ∧
    ∀ base : Heap, K.In base → base.Ns mainGlobals mg → TabB base mg c P → FnOk l.prog w K mg base (L2.CX l.prog w) k f fd ["script"] (@spLawM ⟨some (P, (("law" : Str) ++ ".<locals>.") ++ "<lambda>")⟩ K n body)
theorem walkMT {l : PySem.W.OpenLaw} {k n : Nat} {body : DS} {q : Program} {loose : List Str} {XP : (Str → Option Value) → Heap → Prop} {YP : World → Heap → Prop} {d : DefRec} {K : Params → PySem.W.Frag} (hn : l.most = some 63) (hdf : d.params.defaults = []) (hd : d.name = "law") (hr : Room k callerA)
    (hrec : ((recsOf q).any fun e => e.name == d.name) = true) (hY : ∀ (w : World) (h : Heap), YP w h → (K w.params).In h)
    (F : ∀ (w : World) (mg : Str → Option Value) (h : Heap), (K w.params).In h → h.Ns mainGlobals mg → LawTab l w (K w.params) mg k n body)
    (pure : ∀ ns : List Int, ns.length ≤ 63 → ∃ cs', body (lawS n) (lawC ns) = .rt (.t (.bool true)) cs') :
    PySem.W.WalkO q loose XP YP l.row.toRowW d [] (fun f vs => PySem.call f vs) := by
  refine walk_ofOwn (n := 63) (k := k) (x := "script") (K := K) (CX := fun w => L2.CX l.prog w) hn (by decide) hdf hr hrec hY (fun w mg fa h Y X G e own => ?_) fun w H s e s' c => ?_
  · obtain ⟨f, c, P, fd, o, e', dd, vs, sl, hm, hb, h1, h2, h3, h4, h5, h6, h7, hF⟩ := F w mg h X G
    rw [hd, hm] at e
    cases e
    refine ⟨fd, [(c, P)], @spLawM ⟨some (P, (("law" : Str) ++ ".<locals>.") ++ "<lambda>")⟩ (K w.params) n body, ?_, ?_, ?_, hb, ?_, ?_⟩
    · intro p hp
      rw [List.mem_singleton] at hp
      subst hp
      exact own c P o fd e' dd vs sl h1 h2 h3 h4 h5
    · intro p hp
      rw [List.mem_singleton] at hp
      subst hp
      exact h6
    · intro p hp
      rw [List.mem_singleton] at hp
      subst hp
      exact PySem.W.codeHd_of_K X h7
    · intro H a ns hl _ hT hS
      refine ⟨a, ns, rfl, hS, hl, fun P' q' z => ?_, pure ns hl, fun _ => rfl⟩
      cases z
      exact hT (c, P) (by simp)
    · intro base hX hG hT
      exact hF base hX hG (hT (c, P) (by simp))
  · obtain ⟨_, _, _, _, _, _, _, _, _, _, _, _, z⟩ := c
    exact z
end Mi
set_option Elab.async false
set_option linter.all false
set_option autoImplicit false
set_option maxRecDepth 100000
set_option maxHeartbeats 4000000
namespace Mi
open PySem PySem.Spec PyProof.Rows L2 LamX
def top (i : Nat) : Stmt := PySem.Challenge.pw_snowsure_k09_refused_cities.main.body.getD i (.Pass ⟨0, 0, 0, 0⟩)
structure Top (mg : Str → Option Value) : Prop where
  n_all : mg "all" = none
  n_bool : mg "bool" = none
  n_int : mg "int" = none
  n_isinstance : mg "isinstance" = none
  n_len : mg "len" = none
  n_list : mg "list" = none
  n_range : mg "range" = none
  n_set : mg "set" = none
  n_str : mg "str" = none
  n_tuple : mg "tuple" = none
  c_GREATEST_LATE : ∃ u, mg "GREATEST_LATE" = some u ∧ RelV (.int 5) u
  c_GREATEST_LIMIT : ∃ u, mg "GREATEST_LIMIT" = some u ∧ RelV (.int 9) u
  c_LETTERS : ∃ u, mg "LETTERS" = some u ∧ RelV (.str "abcdefghijklmnopqrstuvwxyz") u
  c_LETTERS_AND_FIGURES : ∃ u, mg "LETTERS_AND_FIGURES" = some u ∧ RelV (.str "abcdefghijklmnopqrstuvwxyz0123456789") u
  c_LONGEST_DAY : ∃ u, mg "LONGEST_DAY" = some u ∧ RelV (.int 60) u
  c_LONGEST_NAME : ∃ u, mg "LONGEST_NAME" = some u ∧ RelV (.int 8) u
  c_LONGEST_PASS : ∃ u, mg "LONGEST_PASS" = some u ∧ RelV (.int 9) u
  c_LONGEST_WORK : ∃ u, mg "LONGEST_WORK" = some u ∧ RelV (.int 20) u
  c_MOST_ARCS : ∃ u, mg "MOST_ARCS" = some u ∧ RelV (.int 12) u
  c_MOST_JUNCTIONS : ∃ u, mg "MOST_JUNCTIONS" = some u ∧ RelV (.int 12) u
  c_MOST_PLOUGHS : ∃ u, mg "MOST_PLOUGHS" = some u ∧ RelV (.int 4) u
  c_MOST_SPANS : ∃ u, mg "MOST_SPANS" = some u ∧ RelV (.int 6) u
  c_MOST_STATES : ∃ u, mg "MOST_STATES" = some u ∧ RelV (.int 30) u
  c_MOST_STREETS : ∃ u, mg "MOST_STREETS" = some u ∧ RelV (.int 20) u
structure Exs (g : G) (P : Program) (w : World) (K : PySem.W.Frag) (mg : Str → Option Value) (base : Heap) : Prop where
  m_BadCity : MkC P w K mg base "BadCity" (g.cl 0) ["name", "why"]
  f_BadCity : XfC K (g.cl 0)
  x_BadCity : ∀ k, k < 2 → PySem.W.exmOne K (.ref (g.cl k)) (.ref (g.cl 0)) = some (decide (k = 0))
  m_BadSky : MkC P w K mg base "BadSky" (g.cl 1) ["name", "why"]
  f_BadSky : XfC K (g.cl 1)
  x_BadSky : ∀ k, k < 2 → PySem.W.exmOne K (.ref (g.cl k)) (.ref (g.cl 1)) = some (decide (k = 1))
theorem sc_is_integer : FnScope (["thing"] : List Str) ["thing"] (defScope (top 8)) := ⟨rfl, rfl, rfl, by decide +kernel, rfl, by decide +kernel, by decide +kernel⟩
noncomputable def F_is_integer : List SV → Cs → R SV := runF 1 (dSeq (dRet (dAndV (dUn (isiT (fun s => s == "int" || s == "bool")) (dVar 0)) (dNotV (dUn (isiT (· == "bool")) (dVar 0))))) (dSkip))
theorem ok_is_integer [TbC] {g : G} {P : Program} {w : World} {K : PySem.W.Frag} {mg : Str → Option Value} {base : Heap} (T : Top mg) (D : Dn K mg "is_integer" (top 8) ["thing"]) : Cal g P w K mg base 1 "is_integer" ["thing"] F_is_integer :=
  Cal.of D sc_is_integer rfl fun cdv A outer s H E f hr => by
    have nd := sc_is_integer.nd
    exact ms_cons (ms_ret (m_vand (m_isi kit_int rfl T.n_isinstance b_isi (pe_tyn rfl T.n_int b_int) (m_var (pv 0))) (m_v1 (m_vnot (m_isi (kit_self "bool" (by decide)) rfl T.n_isinstance b_isi (pe_tyn rfl T.n_bool b_bool) (m_var (pv 0))))))) (ms_nil)
theorem sc_is_row : FnScope (["thing", "least", "greatest"] : List Str) ["thing", "least", "greatest"] (defScope (top 10)) := ⟨rfl, rfl, rfl, by decide +kernel, rfl, by decide +kernel, by decide +kernel⟩
noncomputable def F_is_row : List SV → Cs → R SV := runF 3 (dSeq (dRet (dAndV (dUn (isiT (· == "tuple")) (dVar 0)) (dChain leT leT (dVar 1) (dUn lenT (dVar 0)) (dVar 2)))) (dSkip))
theorem ok_is_row [TbC] {g : G} {P : Program} {w : World} {K : PySem.W.Frag} {mg : Str → Option Value} {base : Heap} (T : Top mg) (D : Dn K mg "is_row" (top 10) ["thing", "least", "greatest"]) : Cal g P w K mg base 1 "is_row" ["thing", "least", "greatest"] F_is_row :=
  Cal.of D sc_is_row rfl fun cdv A outer s H E f hr => by
    have nd := sc_is_row.nd
    exact ms_cons (ms_ret (m_vand (m_isi (kit_self "tuple" (by decide)) rfl T.n_isinstance b_isi (pe_tyn rfl T.n_tuple b_tuple) (m_var (pv 0))) (m_v1 (m_chain or_le or_le (m_var (pv 1)) (m_b1 c_len rfl T.n_len b_len (m_var (pv 0))) (m_var (pv 2)))))) (ms_nil)
theorem sc_is_name : FnScope (["thing", "sign"] : List Str) ["thing"] (defScope (top 11)) := ⟨rfl, rfl, rfl, by decide +kernel, rfl, by decide +kernel, by decide +kernel⟩
noncomputable def F_is_name : List SV → Cs → R SV := runF 2 (dSeq (dIfS (dOrB (dNotB (dTest (dUn (isiT (· == "str")) (dVar 0)))) (dNotB (dTest (dChain leT leT (dC (.int 1)) (dUn lenT (dVar 0)) (dC (.int 8)))))) (dSeq (dRet (dC (.bool false))) (dSkip)) (dSkip)) (dSeq (dRet (dAndV (dBin (op2 inO) (dIdx (dVar 0) (dC (.int 0))) (dC (.str "abcdefghijklmnopqrstuvwxyz"))) (dUn allT (dComp (dIter (dVar 0)) (tgName 1) (dYes) (dBin (op2 inO) (dVar 1) (dC (.str "abcdefghijklmnopqrstuvwxyz0123456789"))) [1])))) (dSkip)))
theorem ok_is_name [TbC] {g : G} {P : Program} {w : World} {K : PySem.W.Frag} {mg : Str → Option Value} {base : Heap} (T : Top mg) (D : Dn K mg "is_name" (top 11) ["thing"]) : Cal g P w K mg base 1 "is_name" ["thing"] F_is_name :=
  Cal.of D sc_is_name rfl fun cdv A outer s H E f hr => by
    have nd := sc_is_name.nd
    exact ms_cons (ms_if (m_tw (m_wor (m_tnot (m_tval (m_isi (kit_self "str" (by decide)) rfl T.n_isinstance b_isi (pe_tyn rfl T.n_str b_str) (m_var (pv 0))))) (m_wor1 (m_tnot (m_tchain or_le or_le (m_int) (m_b1 c_len rfl T.n_len b_len (m_var (pv 0))) (m_globI rfl T.c_LONGEST_NAME)))))) (ms_cons (ms_ret (m_bl)) (ms_nil)) (ms_nil)) (ms_cons (ms_ret (m_vand (m_cmp (or_in (hu65 hr)) (m_idx (m_var (pv 0)) (m_int) (fun _ _ => rfl)) (m_globS rfl T.c_LETTERS) (by rfl)) (m_v1 (m_b1 (c_all rfl) rfl T.n_all b_all (m_lc rfl nd (m_iter (m_var (pv 0))) (blkOk_by (own := [("sign", 1)]) (by rfl)) (fun _ _ _ _ _ => pg_name (i := 1) nd rfl (Or.inl rfl)) (tok_name (by decide)) (fun _ _ _ _ _ => mts_nil) (fun _ _ _ _ _ => m_cmp (or_in (hu65 hr)) (m_var (pv 1)) (m_globS rfl T.c_LETTERS_AND_FIGURES) (by rfl))))))) (ms_nil))
theorem sc_is_known : FnScope (["thing", "names"] : List Str) ["thing", "names"] (defScope (top 12)) := ⟨rfl, rfl, rfl, by decide +kernel, rfl, by decide +kernel, by decide +kernel⟩
noncomputable def F_is_known : List SV → Cs → R SV := runF 2 (dSeq (dRet (dAndV (dUn (isiT (· == "str")) (dVar 0)) (dBin (op2 inO) (dVar 0) (dVar 1)))) (dSkip))
theorem ok_is_known [TbC] {g : G} {P : Program} {w : World} {K : PySem.W.Frag} {mg : Str → Option Value} {base : Heap} (T : Top mg) (D : Dn K mg "is_known" (top 12) ["thing", "names"]) : Cal g P w K mg base 1 "is_known" ["thing", "names"] F_is_known :=
  Cal.of D sc_is_known rfl fun cdv A outer s H E f hr => by
    have nd := sc_is_known.nd
    exact ms_cons (ms_ret (m_vand (m_isi (kit_self "str" (by decide)) rfl T.n_isinstance b_isi (pe_tyn rfl T.n_str b_str) (m_var (pv 0))) (m_v1 (m_cmp (or_in (hu65 hr)) (m_var (pv 0)) (m_var (pv 1)) (by rfl))))) (ms_nil)
theorem sc_are_unlike : FnScope (["names"] : List Str) ["names"] (defScope (top 13)) := ⟨rfl, rfl, rfl, by decide +kernel, rfl, by decide +kernel, by decide +kernel⟩
noncomputable def F_are_unlike : List SV → Cs → R SV := runF 1 (dSeq (dRet (dBin (op2 eqO) (dLenSet (dVar 0)) (dUn lenT (dVar 0)))) (dSkip))
theorem ok_are_unlike [TbC] {g : G} {P : Program} {w : World} {K : PySem.W.Frag} {mg : Str → Option Value} {base : Heap} (T : Top mg) (D : Dn K mg "are_unlike" (top 13) ["names"]) : Cal g P w K mg base 1 "are_unlike" ["names"] F_are_unlike :=
  Cal.of D sc_are_unlike rfl fun cdv A outer s H E f hr => by
    have nd := sc_are_unlike.nd
    exact ms_cons (ms_ret (m_cmp (or_eq (hu64 hr)) (m_lenSet rfl rfl T.n_len rfl T.n_set (m_var (pv 0))) (m_b1 c_len rfl T.n_len b_len (m_var (pv 0))) (nomark _))) (ms_nil)
theorem sc__law_cell_at : FnScope (["script", "k"] : List Str) ["script", "k"] (defScope (top 37)) := ⟨rfl, rfl, rfl, by decide +kernel, rfl, by decide +kernel, by decide +kernel⟩
noncomputable def F__law_cell_at : List SV → Cs → R SV := runF 2 (dSeq (dIfS (dTest (dBin (op2 ltT) (dVar 1) (dUn lenT (dVar 0)))) (dSeq (dRet (dIdx (dVar 0) (dVar 1))) (dSkip)) (dSkip)) (dSeq (dRet (dC (.int 0))) (dSkip)))
theorem ok__law_cell_at [TbC] {g : G} {P : Program} {w : World} {K : PySem.W.Frag} {mg : Str → Option Value} {base : Heap} (T : Top mg) (D : Dn K mg "_law_cell_at" (top 37) ["script", "k"]) : Cal g P w K mg base 1 "_law_cell_at" ["script", "k"] F__law_cell_at :=
  Cal.of D sc__law_cell_at rfl fun cdv A outer s H E f hr => by
    have nd := sc__law_cell_at.nd
    exact ms_cons (ms_if (m_tcmp or_lt (m_var (pv 1)) (m_b1 c_len rfl T.n_len b_len (m_var (pv 0))) (nomark _)) (ms_cons (ms_ret (m_idx (m_var (pv 0)) (m_var (pv 1)) (fun _ _ => rfl))) (ms_nil)) (ms_nil)) (ms_cons (ms_ret (m_int)) (ms_nil))
theorem sc__law_draw : FnScope (["cell", "k", "bound", "primes"] : List Str) ["cell", "k", "bound"] (defScope (top 38)) := ⟨rfl, rfl, rfl, by decide +kernel, rfl, by decide +kernel, by decide +kernel⟩
noncomputable def F__law_draw : List SV → Cs → R SV := runF 4 (dSeq (dAsg (dTup (dCons (dC (.int 1000003)) (dCons (dC (.int 1000033)) (dCons (dC (.int 1000037)) (dCons (dC (.int 1000039)) (dCons (dC (.int 1000081)) (dCons (dC (.int 1000099)) (dCons (dC (.int 1000117)) (dCons (dC (.int 1000121)) (dCons (dC (.int 1000133)) (dCons (dC (.int 1000151)) (dCons (dC (.int 1000159)) (dCons (dC (.int 1000171)) (dCons (dC (.int 1000183)) (dCons (dC (.int 1000187)) (dCons (dC (.int 1000193)) (dCons (dC (.int 1000199)) (dNil)))))))))))))))))) (tgName 3)) (dSeq (dRet (dMod (dMod (dUn intT (dAdd (dMul (dVar 0) (dC (.int 48271))) (dMul (dVar 1) (dC (.int 69621))))) (dIdx (dVar 3) (dMod (dUn intT (dVar 1)) (dC (.int 16))))) (dVar 2))) (dSkip)))
theorem ok__law_draw [TbC] {g : G} {P : Program} {w : World} {K : PySem.W.Frag} {mg : Str → Option Value} {base : Heap} (T : Top mg) (D : Dn K mg "_law_draw" (top 38) ["cell", "k", "bound"]) : Cal g P w K mg base 1 "_law_draw" ["cell", "k", "bound"] F__law_draw :=
  Cal.of D sc__law_draw rfl fun cdv A outer s H E f hr => by
    have nd := sc__law_draw.nd
    exact ms_cons (ms_set (i := 3) nd rfl (Or.inl rfl) (m_tup (m_cons (m_int) (m_cons (m_int) (m_cons (m_int) (m_cons (m_int) (m_cons (m_int) (m_cons (m_int) (m_cons (m_int) (m_cons (m_int) (m_cons (m_int) (m_cons (m_int) (m_cons (m_int) (m_cons (m_int) (m_cons (m_int) (m_cons (m_int) (m_cons (m_int) (m_cons (m_int) (m_nil))))))))))))))))))) (ms_cons (ms_ret (m_mod (m_mod (m_t1 c_int rfl T.n_int b_int (m_add (m_mul (m_var (pv 0)) (m_int)) (m_mul (m_var (pv 1)) (m_int)))) (m_idx (m_var (pv 3)) (m_mod (m_t1 c_int rfl T.n_int b_int (m_var (pv 1))) (m_int)) (fun _ _ => rfl))) (m_var (pv 2)))) (ms_nil))
theorem sc__law_put : FnScope (["row", "at", "thing"] : List Str) ["row", "at", "thing"] (defScope (top 45)) := ⟨rfl, rfl, rfl, by decide +kernel, rfl, by decide +kernel, by decide +kernel⟩
noncomputable def F__law_put : List SV → Cs → R SV := runF 3 (dSeq (dRet (dAdd (dAdd (dSlc (dVar 0) (dNo) (dPart (dVar 1))) (dTup (dCons (dVar 2) (dNil)))) (dSlc (dVar 0) (dPart (dAdd (dVar 1) (dC (.int 1)))) (dNo)))) (dSkip))
theorem ok__law_put [TbC] {g : G} {P : Program} {w : World} {K : PySem.W.Frag} {mg : Str → Option Value} {base : Heap} (T : Top mg) (D : Dn K mg "_law_put" (top 45) ["row", "at", "thing"]) : Cal g P w K mg base 1 "_law_put" ["row", "at", "thing"] F__law_put :=
  Cal.of D sc__law_put rfl fun cdv A outer s H E f hr => by
    have nd := sc__law_put.nd
    exact ms_cons (ms_ret (m_add (m_add (m_slc (m_var (pv 0)) (m_no) (m_part (m_var (pv 1)))) (m_tup (m_cons (m_var (pv 2)) (m_nil)))) (m_slc (m_var (pv 0)) (m_part (m_add (m_var (pv 1)) (m_int))) (m_no)))) (ms_nil)
theorem sc_is_within : FnScope (["thing", "least", "greatest"] : List Str) ["thing", "least", "greatest"] (defScope (top 9)) := ⟨rfl, rfl, rfl, by decide +kernel, rfl, by decide +kernel, by decide +kernel⟩
noncomputable def F_is_within : List SV → Cs → R SV := runF 3 (dSeq (dRet (dAndV (dCall F_is_integer (dCons (dVar 0) (dNil))) (dChain leT leT (dVar 1) (dVar 0) (dVar 2)))) (dSkip))
theorem ok_is_within [TbC] {g : G} {P : Program} {w : World} {K : PySem.W.Frag} {mg : Str → Option Value} {base : Heap} (T : Top mg) (c_is_integer : Cal g P w K mg base 1 "is_integer" ["thing"] F_is_integer) (D : Dn K mg "is_within" (top 9) ["thing", "least", "greatest"]) : Cal g P w K mg base 2 "is_within" ["thing", "least", "greatest"] F_is_within :=
  Cal.of D sc_is_within rfl fun cdv A outer s H E f hr => by
    have nd := sc_is_within.nd
    exact ms_cons (ms_ret (m_vand (m_callC c_is_integer (hr.mono (by decide)) rfl takes_body (m_cons (m_var (pv 0)) (m_nil)) (len_cons (len_nil))) (m_v1 (m_chain or_le or_le (m_var (pv 1)) (m_var (pv 0)) (m_var (pv 2)))))) (ms_nil)
theorem sc__law_number : FnScope (["cell", "k", "bound", "power", "lap", "remains", "small"] : List Str) ["cell", "k", "bound"] (defScope (top 39)) := ⟨rfl, rfl, rfl, by decide +kernel, rfl, by decide +kernel, by decide +kernel⟩
noncomputable def F__law_number : List SV → Cs → R SV := runF 7 (dSeq (dAsg (dC (.int 1)) (tgName 3)) (dSeq (dFor (dRng1 (dMod (dUn intT (dVar 1)) (dC (.int 24)))) (tgName 4) (dSeq (dAsg (dMul (dVar 3) (dC (.int 1009))) (tgName 3)) (dSkip))) (dSeq (dAsg (dFdiv (dSub (dVar 0) (dPow (dC (.int 10)) (dC (.int 18)))) (dVar 3)) (tgName 5)) (dSeq (dIfS (dTest (dBin (op2 gtT) (dVar 5) (dC (.int 0)))) (dSeq (dRet (dMod (dMod (dUn intT (dVar 5)) (dC (.int 1009))) (dVar 2))) (dSkip)) (dSkip)) (dSeq (dAsg (dMod (dUn intT (dVar 0)) (dC (.int 1000003))) (tgName 6)) (dSeq (dRet (dMod (dCall F__law_draw (dCons (dMul (dAdd (dVar 6) (dMul (dC (.int 977)) (dVar 1))) (dAdd (dAdd (dVar 6) (dMul (dC (.int 31)) (dVar 1))) (dC (.int 5)))) (dCons (dAdd (dMod (dUn intT (dVar 1)) (dC (.int 9))) (dC (.int 1))) (dCons (dC (.int 999983)) (dNil))))) (dVar 2))) (dSkip)))))))
theorem ok__law_number [TbC] {g : G} {P : Program} {w : World} {K : PySem.W.Frag} {mg : Str → Option Value} {base : Heap} (T : Top mg) (c__law_draw : Cal g P w K mg base 1 "_law_draw" ["cell", "k", "bound"] F__law_draw) (D : Dn K mg "_law_number" (top 39) ["cell", "k", "bound"]) : Cal g P w K mg base 2 "_law_number" ["cell", "k", "bound"] F__law_number :=
  Cal.of D sc__law_number rfl fun cdv A outer s H E f hr => by
    have nd := sc__law_number.nd
    exact ms_cons (ms_set (i := 3) nd rfl (Or.inl rfl) (m_int)) (ms_cons (ms_for passes_body rfl (m_rng1 (by rfl) T.n_range (m_mod (m_t1 c_int rfl T.n_int b_int (m_var (pv 1))) (m_int))) (mg_name (pg_name (i := 4) nd rfl (Or.inl rfl))) (ms_cons (ms_set (i := 3) nd rfl (Or.inl rfl) (m_mul (m_var (pv 3)) (m_int))) (ms_nil))) (ms_cons (ms_set (i := 5) nd rfl (Or.inl rfl) (m_fdiv (m_sub (m_var (pv 0)) (m_pow (m_int) (m_int))) (m_var (pv 3)))) (ms_cons (ms_if (m_tcmp or_gt (m_var (pv 5)) (m_int) (nomark _)) (ms_cons (ms_ret (m_mod (m_mod (m_t1 c_int rfl T.n_int b_int (m_var (pv 5))) (m_int)) (m_var (pv 2)))) (ms_nil)) (ms_nil)) (ms_cons (ms_set (i := 6) nd rfl (Or.inl rfl) (m_mod (m_t1 c_int rfl T.n_int b_int (m_var (pv 0))) (m_int))) (ms_cons (ms_ret (m_mod (m_callC c__law_draw (hr.mono (by decide)) rfl takes_body (m_cons (m_mul (m_add (m_var (pv 6)) (m_mul (m_int) (m_var (pv 1)))) (m_add (m_add (m_var (pv 6)) (m_mul (m_int) (m_var (pv 1)))) (m_int))) (m_cons (m_add (m_mod (m_t1 c_int rfl T.n_int b_int (m_var (pv 1))) (m_int)) (m_int)) (m_cons (m_int) (m_nil)))) (len_cons (len_cons (len_cons (len_nil))))) (m_var (pv 2)))) (ms_nil))))))
theorem sc_check_junctions : FnScope (["junctions", "junction"] : List Str) ["junctions"] (defScope (top 27)) := ⟨rfl, rfl, rfl, by decide +kernel, rfl, by decide +kernel, by decide +kernel⟩
noncomputable def F_check_junctions : List SV → Cs → R SV := runF 2 (dSeq (dIfS (dNotB (dTest (dCall F_is_row (dCons (dVar 0) (dCons (dC (.int 1)) (dCons (dC (.int 12)) (dNil))))))) (dSeq (dRaise 0 ["name", "why"] (dCons (dC (.str "junctions")) (dCons (dC (.str "junctions are a tuple of 1 to 12")) (dNil)))) (dSkip)) (dSkip)) (dSeq (dIfS (dNotB (dTest (dUn allT (dComp (dIter (dVar 0)) (tgName 1) (dYes) (dCall F_is_name (dCons (dVar 1) (dNil))) [1])))) (dSeq (dRaise 0 ["name", "why"] (dCons (dC (.str "junctions")) (dCons (dC (.str "a junction is a name")) (dNil)))) (dSkip)) (dSkip)) (dSeq (dIfS (dNotB (dTest (dCall F_are_unlike (dCons (dVar 0) (dNil))))) (dSeq (dRaise 0 ["name", "why"] (dCons (dC (.str "junctions")) (dCons (dC (.str "names of junctions are unlike")) (dNil)))) (dSkip)) (dSkip)) (dSkip))))
theorem ok_check_junctions [TbC] {g : G} {P : Program} {w : World} {K : PySem.W.Frag} {mg : Str → Option Value} {base : Heap} (T : Top mg) (X0 : Exs g P w K mg base) (c_are_unlike : Cal g P w K mg base 1 "are_unlike" ["names"] F_are_unlike) (c_is_name : Cal g P w K mg base 1 "is_name" ["thing"] F_is_name) (c_is_row : Cal g P w K mg base 1 "is_row" ["thing", "least", "greatest"] F_is_row) (D : Dn K mg "check_junctions" (top 27) ["junctions"]) : Cal g P w K mg base 3 "check_junctions" ["junctions"] F_check_junctions :=
  Cal.of D sc_check_junctions rfl fun cdv A outer s H E f hr => by
    have nd := sc_check_junctions.nd
    exact ms_cons (ms_if (m_tnot (m_tval (m_callC c_is_row (hr.mono (by decide)) rfl takes_body (m_cons (m_var (pv 0)) (m_cons (m_int) (m_cons (m_globI rfl T.c_MOST_JUNCTIONS) (m_nil)))) (len_cons (len_cons (len_cons (len_nil))))))) (ms_cons (ms_raise X0.m_BadCity rfl takes_body (hr.mono (by decide)) rfl (m_cons (m_str) (m_cons (m_str) (m_nil)))) (ms_nil)) (ms_nil)) (ms_cons (ms_if (m_tnot (m_tval (m_b1 (c_all rfl) rfl T.n_all b_all (m_lc rfl nd (m_iter (m_var (pv 0))) (blkOk_by (own := [("junction", 1)]) (by rfl)) (fun _ _ _ _ _ => pg_name (i := 1) nd rfl (Or.inl rfl)) (tok_name (by decide)) (fun _ _ _ _ _ => mts_nil) (fun _ _ _ _ _ => m_callC c_is_name (hr.mono (by decide)) rfl takes0 (m_cons (m_var (pv 1)) (m_nil)) (len_cons (len_nil))))))) (ms_cons (ms_raise X0.m_BadCity rfl takes_body (hr.mono (by decide)) rfl (m_cons (m_str) (m_cons (m_str) (m_nil)))) (ms_nil)) (ms_nil)) (ms_cons (ms_if (m_tnot (m_tval (m_callC c_are_unlike (hr.mono (by decide)) rfl takes_body (m_cons (m_var (pv 0)) (m_nil)) (len_cons (len_nil))))) (ms_cons (ms_raise X0.m_BadCity rfl takes_body (hr.mono (by decide)) rfl (m_cons (m_str) (m_cons (m_str) (m_nil)))) (ms_nil)) (ms_nil)) (ms_nil)))
theorem sc_check_ploughs : FnScope (["ploughs", "junctions", "plough"] : List Str) ["ploughs", "junctions"] (defScope (top 28)) := ⟨rfl, rfl, rfl, by decide +kernel, rfl, by decide +kernel, by decide +kernel⟩
noncomputable def F_check_ploughs : List SV → Cs → R SV := runF 3 (dSeq (dIfS (dNotB (dTest (dCall F_is_row (dCons (dVar 0) (dCons (dC (.int 1)) (dCons (dC (.int 4)) (dNil))))))) (dSeq (dRaise 0 ["name", "why"] (dCons (dC (.str "ploughs")) (dCons (dC (.str "ploughs are a tuple of 1 to 4")) (dNil)))) (dSkip)) (dSkip)) (dSeq (dFor (dIter (dVar 0)) (tgName 2) (dSeq (dIfS (dOrB (dNotB (dTest (dCall F_is_row (dCons (dVar 2) (dCons (dC (.int 2)) (dCons (dC (.int 2)) (dNil))))))) (dNotB (dTest (dCall F_is_name (dCons (dIdx (dVar 2) (dC (.int 0))) (dNil)))))) (dSeq (dRaise 0 ["name", "why"] (dCons (dC (.str "ploughs")) (dCons (dC (.str "a plough is a tuple of its name and its junction")) (dNil)))) (dSkip)) (dSkip)) (dSeq (dIfS (dNotB (dTest (dCall F_is_known (dCons (dIdx (dVar 2) (dC (.int 1))) (dCons (dVar 1) (dNil)))))) (dSeq (dRaise 0 ["name", "why"] (dCons (dIdx (dVar 2) (dC (.int 0))) (dCons (dC (.str "a plough begins at a junction of the city")) (dNil)))) (dSkip)) (dSkip)) (dSkip)))) (dSkip)))
theorem ok_check_ploughs [TbC] {g : G} {P : Program} {w : World} {K : PySem.W.Frag} {mg : Str → Option Value} {base : Heap} (T : Top mg) (X0 : Exs g P w K mg base) (c_is_known : Cal g P w K mg base 1 "is_known" ["thing", "names"] F_is_known) (c_is_row : Cal g P w K mg base 1 "is_row" ["thing", "least", "greatest"] F_is_row) (c_is_name : Cal g P w K mg base 1 "is_name" ["thing"] F_is_name) (D : Dn K mg "check_ploughs" (top 28) ["ploughs", "junctions"]) : Cal g P w K mg base 3 "check_ploughs" ["ploughs", "junctions"] F_check_ploughs :=
  Cal.of D sc_check_ploughs rfl fun cdv A outer s H E f hr => by
    have nd := sc_check_ploughs.nd
    exact ms_cons (ms_if (m_tnot (m_tval (m_callC c_is_row (hr.mono (by decide)) rfl takes_body (m_cons (m_var (pv 0)) (m_cons (m_int) (m_cons (m_globI rfl T.c_MOST_PLOUGHS) (m_nil)))) (len_cons (len_cons (len_cons (len_nil))))))) (ms_cons (ms_raise X0.m_BadCity rfl takes_body (hr.mono (by decide)) rfl (m_cons (m_str) (m_cons (m_str) (m_nil)))) (ms_nil)) (ms_nil)) (ms_cons (ms_for passes_body rfl (m_iter (m_var (pv 0))) (mg_name (pg_name (i := 2) nd rfl (Or.inl rfl))) (ms_cons (ms_if (m_tw (m_wor (m_tnot (m_tval (m_callC c_is_row (hr.mono (by decide)) rfl takes_body (m_cons (m_var (pv 2)) (m_cons (m_int) (m_cons (m_int) (m_nil)))) (len_cons (len_cons (len_cons (len_nil))))))) (m_wor1 (m_tnot (m_tval (m_callC c_is_name (hr.mono (by decide)) rfl takes_body (m_cons (m_idx (m_var (pv 2)) (m_int) (fun _ _ => rfl)) (m_nil)) (len_cons (len_nil)))))))) (ms_cons (ms_raise X0.m_BadCity rfl takes_body (hr.mono (by decide)) rfl (m_cons (m_str) (m_cons (m_str) (m_nil)))) (ms_nil)) (ms_nil)) (ms_cons (ms_if (m_tnot (m_tval (m_callC c_is_known (hr.mono (by decide)) rfl takes_body (m_cons (m_idx (m_var (pv 2)) (m_int) (fun _ _ => rfl)) (m_cons (m_var (pv 1)) (m_nil))) (len_cons (len_cons (len_nil)))))) (ms_cons (ms_raise X0.m_BadCity rfl takes_body (hr.mono (by decide)) rfl (m_cons (m_idx (m_var (pv 2)) (m_int) (fun _ _ => rfl)) (m_cons (m_str) (m_nil)))) (ms_nil)) (ms_nil)) (ms_nil)))) (ms_nil))
theorem sc_check_rules : FnScope (["rules", "many_ploughs", "day", "late", "falls"] : List Str) ["rules", "many_ploughs"] (defScope (top 29)) := ⟨rfl, rfl, rfl, by decide +kernel, rfl, by decide +kernel, by decide +kernel⟩
noncomputable def F_check_rules : List SV → Cs → R SV := runF 5 (dSeq (dIfS (dNotB (dTest (dCall F_is_row (dCons (dVar 0) (dCons (dC (.int 3)) (dCons (dC (.int 3)) (dNil))))))) (dSeq (dRaise 0 ["name", "why"] (dCons (dC (.str "rules")) (dCons (dC (.str "rules are a tuple of day, late and falls")) (dNil)))) (dSkip)) (dSkip)) (dSeq (dAsg (dVar 0) (tgTup 3 (tgCons 2 (tgCons 3 (tgCons 4 (tgNil)))))) (dSeq (dIfS (dNotB (dTest (dCall F_is_within (dCons (dVar 2) (dCons (dC (.int 1)) (dCons (dC (.int 60)) (dNil))))))) (dSeq (dRaise 0 ["name", "why"] (dCons (dC (.str "rules")) (dCons (dC (.str "a day has 1 to 60 ticks")) (dNil)))) (dSkip)) (dSkip)) (dSeq (dIfS (dNotB (dTest (dCall F_is_within (dCons (dVar 3) (dCons (dC (.int 0)) (dCons (dC (.int 5)) (dNil))))))) (dSeq (dRaise 0 ["name", "why"] (dCons (dC (.str "rules")) (dCons (dC (.str "a ride may be 0 to 5 ticks late")) (dNil)))) (dSkip)) (dSkip)) (dSeq (dIfS (dNotB (dTest (dCall F_is_within (dCons (dVar 4) (dCons (dC (.int 0)) (dCons (dVar 1) (dNil))))))) (dSeq (dRaise 0 ["name", "why"] (dCons (dC (.str "rules")) (dCons (dC (.str "at most as many ploughs break down as there are")) (dNil)))) (dSkip)) (dSkip)) (dSkip))))))
theorem ok_check_rules [TbC] {g : G} {P : Program} {w : World} {K : PySem.W.Frag} {mg : Str → Option Value} {base : Heap} (T : Top mg) (X0 : Exs g P w K mg base) (c_is_within : Cal g P w K mg base 2 "is_within" ["thing", "least", "greatest"] F_is_within) (c_is_row : Cal g P w K mg base 1 "is_row" ["thing", "least", "greatest"] F_is_row) (D : Dn K mg "check_rules" (top 29) ["rules", "many_ploughs"]) : Cal g P w K mg base 3 "check_rules" ["rules", "many_ploughs"] F_check_rules :=
  Cal.of D sc_check_rules rfl fun cdv A outer s H E f hr => by
    have nd := sc_check_rules.nd
    exact ms_cons (ms_if (m_tnot (m_tval (m_callC c_is_row (hr.mono (by decide)) rfl takes_body (m_cons (m_var (pv 0)) (m_cons (m_int) (m_cons (m_int) (m_nil)))) (len_cons (len_cons (len_cons (len_nil))))))) (ms_cons (ms_raise X0.m_BadCity rfl takes_body (hr.mono (by decide)) rfl (m_cons (m_str) (m_cons (m_str) (m_nil)))) (ms_nil)) (ms_nil)) (ms_cons (ms_asg (m_var (pv 0)) (mg_tup rfl (mgs_cons (pg_name (i := 2) nd rfl (Or.inl rfl)) (mgs_cons (pg_name (i := 3) nd rfl (Or.inl rfl)) (mgs_cons (pg_name (i := 4) nd rfl (Or.inl rfl)) (mgs_nil) noEx_nil) (noEx_cons noEx_nil)) (noEx_cons (noEx_cons noEx_nil))))) (ms_cons (ms_if (m_tnot (m_tval (m_callC c_is_within (hr.mono (by decide)) rfl takes_body (m_cons (m_var (pv 2)) (m_cons (m_int) (m_cons (m_globI rfl T.c_LONGEST_DAY) (m_nil)))) (len_cons (len_cons (len_cons (len_nil))))))) (ms_cons (ms_raise X0.m_BadCity rfl takes_body (hr.mono (by decide)) rfl (m_cons (m_str) (m_cons (m_str) (m_nil)))) (ms_nil)) (ms_nil)) (ms_cons (ms_if (m_tnot (m_tval (m_callC c_is_within (hr.mono (by decide)) rfl takes_body (m_cons (m_var (pv 3)) (m_cons (m_int) (m_cons (m_globI rfl T.c_GREATEST_LATE) (m_nil)))) (len_cons (len_cons (len_cons (len_nil))))))) (ms_cons (ms_raise X0.m_BadCity rfl takes_body (hr.mono (by decide)) rfl (m_cons (m_str) (m_cons (m_str) (m_nil)))) (ms_nil)) (ms_nil)) (ms_cons (ms_if (m_tnot (m_tval (m_callC c_is_within (hr.mono (by decide)) rfl takes_body (m_cons (m_var (pv 4)) (m_cons (m_int) (m_cons (m_var (pv 1)) (m_nil)))) (len_cons (len_cons (len_cons (len_nil))))))) (ms_cons (ms_raise X0.m_BadCity rfl takes_body (hr.mono (by decide)) rfl (m_cons (m_str) (m_cons (m_str) (m_nil)))) (ms_nil)) (ms_nil)) (ms_nil)))))
theorem sc_check_hours : FnScope (["name", "hours", "day", "last", "span", "begin", "end"] : List Str) ["name", "hours", "day"] (defScope (top 31)) := ⟨rfl, rfl, rfl, by decide +kernel, rfl, by decide +kernel, by decide +kernel⟩
noncomputable def F_check_hours : List SV → Cs → R SV := runF 7 (dSeq (dIfS (dNotB (dTest (dCall F_is_row (dCons (dVar 1) (dCons (dC (.int 0)) (dCons (dC (.int 6)) (dNil))))))) (dSeq (dRaise 0 ["name", "why"] (dCons (dVar 0) (dCons (dC (.str "hours are a tuple of at most 6")) (dNil)))) (dSkip)) (dSkip)) (dSeq (dAsg (dUn negT (dC (.int 1))) (tgName 3)) (dSeq (dFor (dIter (dVar 1)) (tgName 4) (dSeq (dIfS (dNotB (dTest (dCall F_is_row (dCons (dVar 4) (dCons (dC (.int 2)) (dCons (dC (.int 2)) (dNil))))))) (dSeq (dRaise 0 ["name", "why"] (dCons (dVar 0) (dCons (dC (.str "hours are tuples of begin and end")) (dNil)))) (dSkip)) (dSkip)) (dSeq (dAsg (dVar 4) (tgTup 2 (tgCons 5 (tgCons 6 (tgNil))))) (dSeq (dIfS (dNotB (dTest (dCall F_is_within (dCons (dVar 5) (dCons (dAdd (dVar 3) (dC (.int 1))) (dCons (dSub (dVar 2) (dC (.int 1))) (dNil))))))) (dSeq (dRaise 0 ["name", "why"] (dCons (dVar 0) (dCons (dC (.str "hours begin within the day, behind the end of those ahead of them")) (dNil)))) (dSkip)) (dSkip)) (dSeq (dIfS (dNotB (dTest (dCall F_is_within (dCons (dVar 6) (dCons (dAdd (dVar 5) (dC (.int 1))) (dCons (dVar 2) (dNil))))))) (dSeq (dRaise 0 ["name", "why"] (dCons (dVar 0) (dCons (dC (.str "hours end behind their begin, and within the day")) (dNil)))) (dSkip)) (dSkip)) (dSeq (dAsg (dVar 6) (tgName 3)) (dSkip))))))) (dSkip))))
theorem ok_check_hours [TbC] {g : G} {P : Program} {w : World} {K : PySem.W.Frag} {mg : Str → Option Value} {base : Heap} (T : Top mg) (X0 : Exs g P w K mg base) (c_is_within : Cal g P w K mg base 2 "is_within" ["thing", "least", "greatest"] F_is_within) (c_is_row : Cal g P w K mg base 1 "is_row" ["thing", "least", "greatest"] F_is_row) (D : Dn K mg "check_hours" (top 31) ["name", "hours", "day"]) : Cal g P w K mg base 3 "check_hours" ["name", "hours", "day"] F_check_hours :=
  Cal.of D sc_check_hours rfl fun cdv A outer s H E f hr => by
    have nd := sc_check_hours.nd
    exact ms_cons (ms_if (m_tnot (m_tval (m_callC c_is_row (hr.mono (by decide)) rfl takes_body (m_cons (m_var (pv 1)) (m_cons (m_int) (m_cons (m_globI rfl T.c_MOST_SPANS) (m_nil)))) (len_cons (len_cons (len_cons (len_nil))))))) (ms_cons (ms_raise X0.m_BadCity rfl takes_body (hr.mono (by decide)) rfl (m_cons (m_var (pv 0)) (m_cons (m_str) (m_nil)))) (ms_nil)) (ms_nil)) (ms_cons (ms_set (i := 3) nd rfl (Or.inl rfl) (m_neg (m_int))) (ms_cons (ms_for passes_body rfl (m_iter (m_var (pv 1))) (mg_name (pg_name (i := 4) nd rfl (Or.inl rfl))) (ms_cons (ms_if (m_tnot (m_tval (m_callC c_is_row (hr.mono (by decide)) rfl takes_body (m_cons (m_var (pv 4)) (m_cons (m_int) (m_cons (m_int) (m_nil)))) (len_cons (len_cons (len_cons (len_nil))))))) (ms_cons (ms_raise X0.m_BadCity rfl takes_body (hr.mono (by decide)) rfl (m_cons (m_var (pv 0)) (m_cons (m_str) (m_nil)))) (ms_nil)) (ms_nil)) (ms_cons (ms_asg (m_var (pv 4)) (mg_tup rfl (mgs_cons (pg_name (i := 5) nd rfl (Or.inl rfl)) (mgs_cons (pg_name (i := 6) nd rfl (Or.inl rfl)) (mgs_nil) noEx_nil) (noEx_cons noEx_nil)))) (ms_cons (ms_if (m_tnot (m_tval (m_callC c_is_within (hr.mono (by decide)) rfl takes_body (m_cons (m_var (pv 5)) (m_cons (m_add (m_var (pv 3)) (m_int)) (m_cons (m_sub (m_var (pv 2)) (m_int)) (m_nil)))) (len_cons (len_cons (len_cons (len_nil))))))) (ms_cons (ms_raise X0.m_BadCity rfl takes_body (hr.mono (by decide)) rfl (m_cons (m_var (pv 0)) (m_cons (m_str) (m_nil)))) (ms_nil)) (ms_nil)) (ms_cons (ms_if (m_tnot (m_tval (m_callC c_is_within (hr.mono (by decide)) rfl takes_body (m_cons (m_var (pv 6)) (m_cons (m_add (m_var (pv 5)) (m_int)) (m_cons (m_var (pv 2)) (m_nil)))) (len_cons (len_cons (len_cons (len_nil))))))) (ms_cons (ms_raise X0.m_BadCity rfl takes_body (hr.mono (by decide)) rfl (m_cons (m_var (pv 0)) (m_cons (m_str) (m_nil)))) (ms_nil)) (ms_nil)) (ms_cons (ms_set (i := 3) nd rfl (Or.inl rfl) (m_var (pv 6))) (ms_nil))))))) (ms_nil)))
theorem sc_check_arcs : FnScope (["name", "arcs", "states", "streets", "arc", "fallen_on", "street"] : List Str) ["name", "arcs", "states", "streets"] (defScope (top 34)) := ⟨rfl, rfl, rfl, by decide +kernel, rfl, by decide +kernel, by decide +kernel⟩
noncomputable def F_check_arcs : List SV → Cs → R SV := runF 7 (dSeq (dIfS (dNotB (dTest (dCall F_is_row (dCons (dVar 1) (dCons (dC (.int 1)) (dCons (dC (.int 12)) (dNil))))))) (dSeq (dRaise 1 ["name", "why"] (dCons (dVar 0) (dCons (dC (.str "arcs are a tuple of 1 to 12")) (dNil)))) (dSkip)) (dSkip)) (dSeq (dFor (dIter (dVar 1)) (tgName 4) (dSeq (dIfS (dOrB (dNotB (dTest (dCall F_is_row (dCons (dVar 4) (dCons (dC (.int 2)) (dCons (dC (.int 2)) (dNil))))))) (dNotB (dTest (dCall F_is_known (dCons (dIdx (dVar 4) (dC (.int 0))) (dCons (dVar 2) (dNil))))))) (dSeq (dRaise 1 ["name", "why"] (dCons (dVar 0) (dCons (dC (.str "an arc is a tuple of the state to which it leads and its streets")) (dNil)))) (dSkip)) (dSkip)) (dSeq (dAsg (dIdx (dVar 4) (dC (.int 1))) (tgName 5)) (dSeq (dIfS (dOrB (dNotB (dTest (dCall F_is_row (dCons (dVar 5) (dCons (dC (.int 0)) (dCons (dUn lenT (dVar 3)) (dNil))))))) (dNotB (dTest (dUn allT (dComp (dIter (dVar 5)) (tgName 6) (dYes) (dCall F_is_known (dCons (dVar 6) (dCons (dVar 3) (dNil)))) [6]))))) (dSeq (dRaise 1 ["name", "why"] (dCons (dVar 0) (dCons (dC (.str "an arc's streets are a tuple of streets of the city")) (dNil)))) (dSkip)) (dSkip)) (dSeq (dIfS (dNotB (dTest (dCall F_are_unlike (dCons (dVar 5) (dNil))))) (dSeq (dRaise 1 ["name", "why"] (dCons (dVar 0) (dCons (dC (.str "an arc's streets are unlike")) (dNil)))) (dSkip)) (dSkip)) (dSkip)))))) (dSkip)))
theorem ok_check_arcs [TbC] {g : G} {P : Program} {w : World} {K : PySem.W.Frag} {mg : Str → Option Value} {base : Heap} (T : Top mg) (X0 : Exs g P w K mg base) (c_are_unlike : Cal g P w K mg base 1 "are_unlike" ["names"] F_are_unlike) (c_is_row : Cal g P w K mg base 1 "is_row" ["thing", "least", "greatest"] F_is_row) (c_is_known : Cal g P w K mg base 1 "is_known" ["thing", "names"] F_is_known) (D : Dn K mg "check_arcs" (top 34) ["name", "arcs", "states", "streets"]) : Cal g P w K mg base 3 "check_arcs" ["name", "arcs", "states", "streets"] F_check_arcs :=
  Cal.of D sc_check_arcs rfl fun cdv A outer s H E f hr => by
    have nd := sc_check_arcs.nd
    exact ms_cons (ms_if (m_tnot (m_tval (m_callC c_is_row (hr.mono (by decide)) rfl takes_body (m_cons (m_var (pv 1)) (m_cons (m_int) (m_cons (m_globI rfl T.c_MOST_ARCS) (m_nil)))) (len_cons (len_cons (len_cons (len_nil))))))) (ms_cons (ms_raise X0.m_BadSky rfl takes_body (hr.mono (by decide)) rfl (m_cons (m_var (pv 0)) (m_cons (m_str) (m_nil)))) (ms_nil)) (ms_nil)) (ms_cons (ms_for passes_body rfl (m_iter (m_var (pv 1))) (mg_name (pg_name (i := 4) nd rfl (Or.inl rfl))) (ms_cons (ms_if (m_tw (m_wor (m_tnot (m_tval (m_callC c_is_row (hr.mono (by decide)) rfl takes_body (m_cons (m_var (pv 4)) (m_cons (m_int) (m_cons (m_int) (m_nil)))) (len_cons (len_cons (len_cons (len_nil))))))) (m_wor1 (m_tnot (m_tval (m_callC c_is_known (hr.mono (by decide)) rfl takes_body (m_cons (m_idx (m_var (pv 4)) (m_int) (fun _ _ => rfl)) (m_cons (m_var (pv 2)) (m_nil))) (len_cons (len_cons (len_nil))))))))) (ms_cons (ms_raise X0.m_BadSky rfl takes_body (hr.mono (by decide)) rfl (m_cons (m_var (pv 0)) (m_cons (m_str) (m_nil)))) (ms_nil)) (ms_nil)) (ms_cons (ms_set (i := 5) nd rfl (Or.inl rfl) (m_idx (m_var (pv 4)) (m_int) (fun _ _ => rfl))) (ms_cons (ms_if (m_tw (m_wor (m_tnot (m_tval (m_callC c_is_row (hr.mono (by decide)) rfl takes_body (m_cons (m_var (pv 5)) (m_cons (m_int) (m_cons (m_b1 c_len rfl T.n_len b_len (m_var (pv 3))) (m_nil)))) (len_cons (len_cons (len_cons (len_nil))))))) (m_wor1 (m_tnot (m_tval (m_b1 (c_all rfl) rfl T.n_all b_all (m_lc rfl nd (m_iter (m_var (pv 5))) (blkOk_by (own := [("street", 6)]) (by rfl)) (fun _ _ _ _ _ => pg_name (i := 6) nd rfl (Or.inl rfl)) (tok_name (by decide)) (fun _ _ _ _ _ => mts_nil) (fun _ _ _ _ _ => m_callC c_is_known (hr.mono (by decide)) rfl takes0 (m_cons (m_var (pv 6)) (m_cons (m_var (pv 3)) (m_nil))) (len_cons (len_cons (len_nil))))))))))) (ms_cons (ms_raise X0.m_BadSky rfl takes_body (hr.mono (by decide)) rfl (m_cons (m_var (pv 0)) (m_cons (m_str) (m_nil)))) (ms_nil)) (ms_nil)) (ms_cons (ms_if (m_tnot (m_tval (m_callC c_are_unlike (hr.mono (by decide)) rfl takes_body (m_cons (m_var (pv 5)) (m_nil)) (len_cons (len_nil))))) (ms_cons (ms_raise X0.m_BadSky rfl takes_body (hr.mono (by decide)) rfl (m_cons (m_var (pv 0)) (m_cons (m_str) (m_nil)))) (ms_nil)) (ms_nil)) (ms_nil)))))) (ms_nil))
theorem sc__law_next : FnScope (["draw", "bound", "at", "cell"] : List Str) ["draw", "bound"] (defScope (top 40)) := ⟨rfl, rfl, rfl, by decide +kernel, rfl, by decide +kernel, by decide +kernel⟩
noncomputable def F__law_next : List SV → Cs → R SV := runF 4 (dSeq (dAsg (dAdd (dIdx (dVar 0) (dC (.int 2))) (dC (.int 1))) (tgSub (dVar 0) (dC (.int 2)))) (dSeq (dAsg (dFdiv (dIdx (dVar 0) (dC (.int 2))) (dC (.int 12))) (tgName 2)) (dSeq (dAsg (dAdd (dCall F__law_cell_at (dCons (dIdx (dVar 0) (dC (.int 0))) (dCons (dAdd (dIdx (dVar 0) (dC (.int 1))) (dVar 2)) (dNil)))) (dMul (dC (.int 31)) (dVar 2))) (tgName 3)) (dSeq (dRet (dCall F__law_number (dCons (dVar 3) (dCons (dAdd (dMod (dUn intT (dIdx (dVar 0) (dC (.int 2)))) (dC (.int 12))) (dC (.int 1))) (dCons (dVar 1) (dNil)))))) (dSkip)))))
theorem ok__law_next [TbC] {g : G} {P : Program} {w : World} {K : PySem.W.Frag} {mg : Str → Option Value} {base : Heap} (T : Top mg) (c__law_number : Cal g P w K mg base 2 "_law_number" ["cell", "k", "bound"] F__law_number) (c__law_cell_at : Cal g P w K mg base 1 "_law_cell_at" ["script", "k"] F__law_cell_at) (D : Dn K mg "_law_next" (top 40) ["draw", "bound"]) : Cal g P w K mg base 3 "_law_next" ["draw", "bound"] F__law_next :=
  Cal.of D sc__law_next rfl fun cdv A outer s H E f hr => by
    have nd := sc__law_next.nd
    exact ms_cons (ms_asg (m_add (m_idx (m_var (pv 0)) (m_int) (fun _ _ => rfl)) (m_int)) (mg_sub (m_var (pv 0)) (m_int))) (ms_cons (ms_set (i := 2) nd rfl (Or.inl rfl) (m_fdiv (m_idx (m_var (pv 0)) (m_int) (fun _ _ => rfl)) (m_int))) (ms_cons (ms_set (i := 3) nd rfl (Or.inl rfl) (m_add (m_callC c__law_cell_at (hr.mono (by decide)) rfl takes_body (m_cons (m_idx (m_var (pv 0)) (m_int) (fun _ _ => rfl)) (m_cons (m_add (m_idx (m_var (pv 0)) (m_int) (fun _ _ => rfl)) (m_var (pv 2))) (m_nil))) (len_cons (len_cons (len_nil)))) (m_mul (m_int) (m_var (pv 2))))) (ms_cons (ms_ret (m_callC c__law_number (hr.mono (by decide)) rfl takes_body (m_cons (m_var (pv 3)) (m_cons (m_add (m_mod (m_t1 c_int rfl T.n_int b_int (m_idx (m_var (pv 0)) (m_int) (fun _ _ => rfl))) (m_int)) (m_int)) (m_cons (m_var (pv 1)) (m_nil)))) (len_cons (len_cons (len_cons (len_nil)))))) (ms_nil))))
theorem sc_check_street : FnScope (["street", "junctions", "day", "name", "one", "other", "passing", "work", "limit", "hours"] : List Str) ["street", "junctions", "day"] (defScope (top 30)) := ⟨rfl, rfl, rfl, by decide +kernel, rfl, by decide +kernel, by decide +kernel⟩
noncomputable def F_check_street : List SV → Cs → R SV := runF 10 (dSeq (dIfS (dOrB (dNotB (dTest (dCall F_is_row (dCons (dVar 0) (dCons (dC (.int 7)) (dCons (dC (.int 7)) (dNil))))))) (dNotB (dTest (dCall F_is_name (dCons (dIdx (dVar 0) (dC (.int 0))) (dNil)))))) (dSeq (dRaise 0 ["name", "why"] (dCons (dC (.str "streets")) (dCons (dC (.str "a street is a tuple of its name, two junctions, pass, work, limit and hours")) (dNil)))) (dSkip)) (dSkip)) (dSeq (dAsg (dVar 0) (tgTup 7 (tgCons 3 (tgCons 4 (tgCons 5 (tgCons 6 (tgCons 7 (tgCons 8 (tgCons 9 (tgNil)))))))))) (dSeq (dIfS (dOrB (dNotB (dTest (dCall F_is_known (dCons (dVar 4) (dCons (dVar 1) (dNil)))))) (dOrB (dNotB (dTest (dCall F_is_known (dCons (dVar 5) (dCons (dVar 1) (dNil)))))) (dTest (dBin (op2 eqO) (dVar 4) (dVar 5))))) (dSeq (dRaise 0 ["name", "why"] (dCons (dVar 3) (dCons (dC (.str "a street is between two unlike junctions of the city")) (dNil)))) (dSkip)) (dSkip)) (dSeq (dIfS (dNotB (dTest (dCall F_is_within (dCons (dVar 6) (dCons (dC (.int 1)) (dCons (dC (.int 9)) (dNil))))))) (dSeq (dRaise 0 ["name", "why"] (dCons (dVar 3) (dCons (dC (.str "driving through takes 1 to 9 ticks")) (dNil)))) (dSkip)) (dSkip)) (dSeq (dIfS (dNotB (dTest (dCall F_is_within (dCons (dVar 7) (dCons (dVar 6) (dCons (dC (.int 20)) (dNil))))))) (dSeq (dRaise 0 ["name", "why"] (dCons (dVar 3) (dCons (dC (.str "ploughing takes at least as long as driving through, and at most 20 ticks")) (dNil)))) (dSkip)) (dSkip)) (dSeq (dIfS (dNotB (dTest (dCall F_is_within (dCons (dVar 8) (dCons (dC (.int 0)) (dCons (dC (.int 9)) (dNil))))))) (dSeq (dRaise 0 ["name", "why"] (dCons (dVar 3) (dCons (dC (.str "a street bears 0 to 9 units of snow")) (dNil)))) (dSkip)) (dSkip)) (dSeq (dExpr (dCall F_check_hours (dCons (dVar 3) (dCons (dVar 9) (dCons (dVar 2) (dNil)))))) (dSkip))))))))
theorem ok_check_street [TbC] {g : G} {P : Program} {w : World} {K : PySem.W.Frag} {mg : Str → Option Value} {base : Heap} (T : Top mg) (X0 : Exs g P w K mg base) (c_check_hours : Cal g P w K mg base 3 "check_hours" ["name", "hours", "day"] F_check_hours) (c_is_within : Cal g P w K mg base 2 "is_within" ["thing", "least", "greatest"] F_is_within) (c_is_known : Cal g P w K mg base 1 "is_known" ["thing", "names"] F_is_known) (c_is_row : Cal g P w K mg base 1 "is_row" ["thing", "least", "greatest"] F_is_row) (c_is_name : Cal g P w K mg base 1 "is_name" ["thing"] F_is_name) (D : Dn K mg "check_street" (top 30) ["street", "junctions", "day"]) : Cal g P w K mg base 4 "check_street" ["street", "junctions", "day"] F_check_street :=
  Cal.of D sc_check_street rfl fun cdv A outer s H E f hr => by
    have nd := sc_check_street.nd
    exact ms_cons (ms_if (m_tw (m_wor (m_tnot (m_tval (m_callC c_is_row (hr.mono (by decide)) rfl takes_body (m_cons (m_var (pv 0)) (m_cons (m_int) (m_cons (m_int) (m_nil)))) (len_cons (len_cons (len_cons (len_nil))))))) (m_wor1 (m_tnot (m_tval (m_callC c_is_name (hr.mono (by decide)) rfl takes_body (m_cons (m_idx (m_var (pv 0)) (m_int) (fun _ _ => rfl)) (m_nil)) (len_cons (len_nil)))))))) (ms_cons (ms_raise X0.m_BadCity rfl takes_body (hr.mono (by decide)) rfl (m_cons (m_str) (m_cons (m_str) (m_nil)))) (ms_nil)) (ms_nil)) (ms_cons (ms_asg (m_var (pv 0)) (mg_tup rfl (mgs_cons (pg_name (i := 3) nd rfl (Or.inl rfl)) (mgs_cons (pg_name (i := 4) nd rfl (Or.inl rfl)) (mgs_cons (pg_name (i := 5) nd rfl (Or.inl rfl)) (mgs_cons (pg_name (i := 6) nd rfl (Or.inl rfl)) (mgs_cons (pg_name (i := 7) nd rfl (Or.inl rfl)) (mgs_cons (pg_name (i := 8) nd rfl (Or.inl rfl)) (mgs_cons (pg_name (i := 9) nd rfl (Or.inl rfl)) (mgs_nil) noEx_nil) (noEx_cons noEx_nil)) (noEx_cons (noEx_cons noEx_nil))) (noEx_cons (noEx_cons (noEx_cons noEx_nil)))) (noEx_cons (noEx_cons (noEx_cons (noEx_cons noEx_nil))))) (noEx_cons (noEx_cons (noEx_cons (noEx_cons (noEx_cons noEx_nil)))))) (noEx_cons (noEx_cons (noEx_cons (noEx_cons (noEx_cons (noEx_cons noEx_nil))))))))) (ms_cons (ms_if (m_tw (m_wor (m_tnot (m_tval (m_callC c_is_known (hr.mono (by decide)) rfl takes_body (m_cons (m_var (pv 4)) (m_cons (m_var (pv 1)) (m_nil))) (len_cons (len_cons (len_nil)))))) (m_wor (m_tnot (m_tval (m_callC c_is_known (hr.mono (by decide)) rfl takes_body (m_cons (m_var (pv 5)) (m_cons (m_var (pv 1)) (m_nil))) (len_cons (len_cons (len_nil)))))) (m_wor1 (m_tcmp (or_eq (hu64 hr)) (m_var (pv 4)) (m_var (pv 5)) (nomark _)))))) (ms_cons (ms_raise X0.m_BadCity rfl takes_body (hr.mono (by decide)) rfl (m_cons (m_var (pv 3)) (m_cons (m_str) (m_nil)))) (ms_nil)) (ms_nil)) (ms_cons (ms_if (m_tnot (m_tval (m_callC c_is_within (hr.mono (by decide)) rfl takes_body (m_cons (m_var (pv 6)) (m_cons (m_int) (m_cons (m_globI rfl T.c_LONGEST_PASS) (m_nil)))) (len_cons (len_cons (len_cons (len_nil))))))) (ms_cons (ms_raise X0.m_BadCity rfl takes_body (hr.mono (by decide)) rfl (m_cons (m_var (pv 3)) (m_cons (m_str) (m_nil)))) (ms_nil)) (ms_nil)) (ms_cons (ms_if (m_tnot (m_tval (m_callC c_is_within (hr.mono (by decide)) rfl takes_body (m_cons (m_var (pv 7)) (m_cons (m_var (pv 6)) (m_cons (m_globI rfl T.c_LONGEST_WORK) (m_nil)))) (len_cons (len_cons (len_cons (len_nil))))))) (ms_cons (ms_raise X0.m_BadCity rfl takes_body (hr.mono (by decide)) rfl (m_cons (m_var (pv 3)) (m_cons (m_str) (m_nil)))) (ms_nil)) (ms_nil)) (ms_cons (ms_if (m_tnot (m_tval (m_callC c_is_within (hr.mono (by decide)) rfl takes_body (m_cons (m_var (pv 8)) (m_cons (m_int) (m_cons (m_globI rfl T.c_GREATEST_LIMIT) (m_nil)))) (len_cons (len_cons (len_cons (len_nil))))))) (ms_cons (ms_raise X0.m_BadCity rfl takes_body (hr.mono (by decide)) rfl (m_cons (m_var (pv 3)) (m_cons (m_str) (m_nil)))) (ms_nil)) (ms_nil)) (ms_cons (ms_expr (m_callC c_check_hours (hr.mono (by decide)) rfl takes_body (m_cons (m_var (pv 3)) (m_cons (m_var (pv 9)) (m_cons (m_var (pv 2)) (m_nil)))) (len_cons (len_cons (len_cons (len_nil)))))) (ms_nil)))))))
theorem sc_check_sky : FnScope (["city", "thing", "state", "names", "streets", "first", "states", "name", "arcs", "street"] : List Str) ["city", "thing"] (defScope (top 33)) := ⟨rfl, rfl, rfl, by decide +kernel, rfl, by decide +kernel, by decide +kernel⟩
noncomputable def F_check_sky : List SV → Cs → R SV := runF 10 (dSeq (dIfS (dNotB (dTest (dCall F_is_row (dCons (dVar 1) (dCons (dC (.int 2)) (dCons (dC (.int 2)) (dNil))))))) (dSeq (dRaise 1 ["name", "why"] (dCons (dC (.str "sky")) (dCons (dC (.str "a sky is a tuple of its first state and its states")) (dNil)))) (dSkip)) (dSkip)) (dSeq (dAsg (dVar 1) (tgTup 2 (tgCons 5 (tgCons 6 (tgNil))))) (dSeq (dIfS (dNotB (dTest (dCall F_is_row (dCons (dVar 6) (dCons (dC (.int 1)) (dCons (dC (.int 30)) (dNil))))))) (dSeq (dRaise 1 ["name", "why"] (dCons (dC (.str "sky")) (dCons (dC (.str "states are a tuple of 1 to 30")) (dNil)))) (dSkip)) (dSkip)) (dSeq (dFor (dIter (dVar 6)) (tgName 2) (dSeq (dIfS (dOrB (dNotB (dTest (dCall F_is_row (dCons (dVar 2) (dCons (dC (.int 2)) (dCons (dC (.int 2)) (dNil))))))) (dNotB (dTest (dCall F_is_name (dCons (dIdx (dVar 2) (dC (.int 0))) (dNil)))))) (dSeq (dRaise 1 ["name", "why"] (dCons (dC (.str "sky")) (dCons (dC (.str "a state is a tuple of its name and its arcs")) (dNil)))) (dSkip)) (dSkip)) (dSkip))) (dSeq (dAsg (dComp (dIter (dVar 6)) (tgName 2) (dYes) (dIdx (dVar 2) (dC (.int 0))) [2]) (tgName 3)) (dSeq (dIfS (dNotB (dTest (dCall F_are_unlike (dCons (dVar 3) (dNil))))) (dSeq (dRaise 1 ["name", "why"] (dCons (dC (.str "sky")) (dCons (dC (.str "names of states are unlike")) (dNil)))) (dSkip)) (dSkip)) (dSeq (dIfS (dNotB (dTest (dCall F_is_known (dCons (dVar 5) (dCons (dVar 3) (dNil)))))) (dSeq (dRaise 1 ["name", "why"] (dCons (dC (.str "sky")) (dCons (dC (.str "the first state is one of the states")) (dNil)))) (dSkip)) (dSkip)) (dSeq (dAsg (dComp (dIter (dIdx (dVar 0) (dC (.int 1)))) (tgName 9) (dYes) (dIdx (dVar 9) (dC (.int 0))) [9]) (tgName 4)) (dSeq (dFor (dIter (dVar 6)) (tgTup 2 (tgCons 7 (tgCons 8 (tgNil)))) (dSeq (dExpr (dCall F_check_arcs (dCons (dVar 7) (dCons (dVar 8) (dCons (dVar 3) (dCons (dVar 4) (dNil))))))) (dSkip))) (dSkip))))))))))
theorem ok_check_sky [TbC] {g : G} {P : Program} {w : World} {K : PySem.W.Frag} {mg : Str → Option Value} {base : Heap} (T : Top mg) (X0 : Exs g P w K mg base) (c_check_arcs : Cal g P w K mg base 3 "check_arcs" ["name", "arcs", "states", "streets"] F_check_arcs) (c_is_known : Cal g P w K mg base 1 "is_known" ["thing", "names"] F_is_known) (c_are_unlike : Cal g P w K mg base 1 "are_unlike" ["names"] F_are_unlike) (c_is_row : Cal g P w K mg base 1 "is_row" ["thing", "least", "greatest"] F_is_row) (c_is_name : Cal g P w K mg base 1 "is_name" ["thing"] F_is_name) (D : Dn K mg "check_sky" (top 33) ["city", "thing"]) : Cal g P w K mg base 4 "check_sky" ["city", "thing"] F_check_sky :=
  Cal.of D sc_check_sky rfl fun cdv A outer s H E f hr => by
    have nd := sc_check_sky.nd
    exact ms_cons (ms_if (m_tnot (m_tval (m_callC c_is_row (hr.mono (by decide)) rfl takes_body (m_cons (m_var (pv 1)) (m_cons (m_int) (m_cons (m_int) (m_nil)))) (len_cons (len_cons (len_cons (len_nil))))))) (ms_cons (ms_raise X0.m_BadSky rfl takes_body (hr.mono (by decide)) rfl (m_cons (m_str) (m_cons (m_str) (m_nil)))) (ms_nil)) (ms_nil)) (ms_cons (ms_asg (m_var (pv 1)) (mg_tup rfl (mgs_cons (pg_name (i := 5) nd rfl (Or.inl rfl)) (mgs_cons (pg_name (i := 6) nd rfl (Or.inl rfl)) (mgs_nil) noEx_nil) (noEx_cons noEx_nil)))) (ms_cons (ms_if (m_tnot (m_tval (m_callC c_is_row (hr.mono (by decide)) rfl takes_body (m_cons (m_var (pv 6)) (m_cons (m_int) (m_cons (m_globI rfl T.c_MOST_STATES) (m_nil)))) (len_cons (len_cons (len_cons (len_nil))))))) (ms_cons (ms_raise X0.m_BadSky rfl takes_body (hr.mono (by decide)) rfl (m_cons (m_str) (m_cons (m_str) (m_nil)))) (ms_nil)) (ms_nil)) (ms_cons (ms_for passes_body rfl (m_iter (m_var (pv 6))) (mg_name (pg_name (i := 2) nd rfl (Or.inl rfl))) (ms_cons (ms_if (m_tw (m_wor (m_tnot (m_tval (m_callC c_is_row (hr.mono (by decide)) rfl takes_body (m_cons (m_var (pv 2)) (m_cons (m_int) (m_cons (m_int) (m_nil)))) (len_cons (len_cons (len_cons (len_nil))))))) (m_wor1 (m_tnot (m_tval (m_callC c_is_name (hr.mono (by decide)) rfl takes_body (m_cons (m_idx (m_var (pv 2)) (m_int) (fun _ _ => rfl)) (m_nil)) (len_cons (len_nil)))))))) (ms_cons (ms_raise X0.m_BadSky rfl takes_body (hr.mono (by decide)) rfl (m_cons (m_str) (m_cons (m_str) (m_nil)))) (ms_nil)) (ms_nil)) (ms_nil))) (ms_cons (ms_setLc (i := 3) rfl nd rfl rfl (sw_true rfl rfl rfl rfl) (m_iter (m_var (pv 6))) (blkOk_by (own := [("state", 2)]) (by rfl)) (fun _ _ _ _ _ => pg_name (i := 2) nd rfl (Or.inl rfl)) (tok_name (by decide)) (fun _ _ _ _ _ => mts_nil) (fun _ _ _ _ _ => m_idx (m_var (pv 2)) (m_int) (fun _ _ => rfl))) (ms_cons (ms_if (m_tnot (m_tval (m_callC c_are_unlike (hr.mono (by decide)) rfl takes_body (m_cons (m_var (pv 3)) (m_nil)) (len_cons (len_nil))))) (ms_cons (ms_raise X0.m_BadSky rfl takes_body (hr.mono (by decide)) rfl (m_cons (m_str) (m_cons (m_str) (m_nil)))) (ms_nil)) (ms_nil)) (ms_cons (ms_if (m_tnot (m_tval (m_callC c_is_known (hr.mono (by decide)) rfl takes_body (m_cons (m_var (pv 5)) (m_cons (m_var (pv 3)) (m_nil))) (len_cons (len_cons (len_nil)))))) (ms_cons (ms_raise X0.m_BadSky rfl takes_body (hr.mono (by decide)) rfl (m_cons (m_str) (m_cons (m_str) (m_nil)))) (ms_nil)) (ms_nil)) (ms_cons (ms_setLc (i := 4) rfl nd rfl rfl (sw_true rfl rfl rfl rfl) (m_iter (m_idx (m_var (pv 0)) (m_int) (fun _ _ => rfl))) (blkOk_by (own := [("street", 9)]) (by rfl)) (fun _ _ _ _ _ => pg_name (i := 9) nd rfl (Or.inl rfl)) (tok_name (by decide)) (fun _ _ _ _ _ => mts_nil) (fun _ _ _ _ _ => m_idx (m_var (pv 9)) (m_int) (fun _ _ => rfl))) (ms_cons (ms_for passes_body rfl (m_iter (m_var (pv 6))) (mg_tup rfl (mgs_cons (pg_name (i := 7) nd rfl (Or.inl rfl)) (mgs_cons (pg_name (i := 8) nd rfl (Or.inl rfl)) (mgs_nil) noEx_nil) (noEx_cons noEx_nil))) (ms_cons (ms_expr (m_callC c_check_arcs (hr.mono (by decide)) rfl takes_body (m_cons (m_var (pv 7)) (m_cons (m_var (pv 8)) (m_cons (m_var (pv 3)) (m_cons (m_var (pv 4)) (m_nil))))) (len_cons (len_cons (len_cons (len_cons (len_nil))))))) (ms_nil))) (ms_nil)))))))))
theorem sc__law_pick : FnScope (["draw", "things"] : List Str) ["draw", "things"] (defScope (top 41)) := ⟨rfl, rfl, rfl, by decide +kernel, rfl, by decide +kernel, by decide +kernel⟩
noncomputable def F__law_pick : List SV → Cs → R SV := runF 2 (dSeq (dRet (dIdx (dVar 1) (dCall F__law_next (dCons (dVar 0) (dCons (dUn lenT (dVar 1)) (dNil)))))) (dSkip))
theorem ok__law_pick [TbC] {g : G} {P : Program} {w : World} {K : PySem.W.Frag} {mg : Str → Option Value} {base : Heap} (T : Top mg) (c__law_next : Cal g P w K mg base 3 "_law_next" ["draw", "bound"] F__law_next) (D : Dn K mg "_law_pick" (top 41) ["draw", "things"]) : Cal g P w K mg base 4 "_law_pick" ["draw", "things"] F__law_pick :=
  Cal.of D sc__law_pick rfl fun cdv A outer s H E f hr => by
    have nd := sc__law_pick.nd
    exact ms_cons (ms_ret (m_idx (m_var (pv 1)) (m_callC c__law_next (hr.mono (by decide)) rfl takes_body (m_cons (m_var (pv 0)) (m_cons (m_b1 c_len rfl T.n_len b_len (m_var (pv 1))) (m_nil))) (len_cons (len_cons (len_nil)))) (fun _ _ => rfl))) (ms_nil)
theorem sc_check_city : FnScope (["thing", "street", "junctions", "streets", "ploughs", "rules", "row"] : List Str) ["thing"] (defScope (top 26)) := ⟨rfl, rfl, rfl, by decide +kernel, rfl, by decide +kernel, by decide +kernel⟩
noncomputable def F_check_city : List SV → Cs → R SV := runF 7 (dSeq (dIfS (dNotB (dTest (dCall F_is_row (dCons (dVar 0) (dCons (dC (.int 4)) (dCons (dC (.int 4)) (dNil))))))) (dSeq (dRaise 0 ["name", "why"] (dCons (dC (.str "city")) (dCons (dC (.str "a city is a tuple of junctions, streets, ploughs and rules")) (dNil)))) (dSkip)) (dSkip)) (dSeq (dAsg (dVar 0) (tgTup 4 (tgCons 2 (tgCons 3 (tgCons 4 (tgCons 5 (tgNil))))))) (dSeq (dExpr (dCall F_check_junctions (dCons (dVar 2) (dNil)))) (dSeq (dExpr (dCall F_check_ploughs (dCons (dVar 4) (dCons (dVar 2) (dNil))))) (dSeq (dExpr (dCall F_check_rules (dCons (dVar 5) (dCons (dUn lenT (dVar 4)) (dNil))))) (dSeq (dIfS (dNotB (dTest (dCall F_is_row (dCons (dVar 3) (dCons (dC (.int 0)) (dCons (dC (.int 20)) (dNil))))))) (dSeq (dRaise 0 ["name", "why"] (dCons (dC (.str "streets")) (dCons (dC (.str "streets are a tuple of at most 20")) (dNil)))) (dSkip)) (dSkip)) (dSeq (dFor (dIter (dVar 3)) (tgName 1) (dSeq (dExpr (dCall F_check_street (dCons (dVar 1) (dCons (dVar 2) (dCons (dIdx (dVar 5) (dC (.int 0))) (dNil)))))) (dSkip))) (dSeq (dIfS (dNotB (dTest (dCall F_are_unlike (dCons (dComp (dIter (dAdd (dVar 3) (dVar 4))) (tgName 6) (dYes) (dIdx (dVar 6) (dC (.int 0))) [6]) (dNil))))) (dSeq (dRaise 0 ["name", "why"] (dCons (dC (.str "streets")) (dCons (dC (.str "names of streets and ploughs, all together, are unlike")) (dNil)))) (dSkip)) (dSkip)) (dSkip)))))))))
theorem ok_check_city [TbC] {g : G} {P : Program} {w : World} {K : PySem.W.Frag} {mg : Str → Option Value} {base : Heap} (T : Top mg) (X0 : Exs g P w K mg base) (c_are_unlike : Cal g P w K mg base 1 "are_unlike" ["names"] F_are_unlike) (c_check_street : Cal g P w K mg base 4 "check_street" ["street", "junctions", "day"] F_check_street) (c_is_row : Cal g P w K mg base 1 "is_row" ["thing", "least", "greatest"] F_is_row) (c_check_rules : Cal g P w K mg base 3 "check_rules" ["rules", "many_ploughs"] F_check_rules) (c_check_ploughs : Cal g P w K mg base 3 "check_ploughs" ["ploughs", "junctions"] F_check_ploughs) (c_check_junctions : Cal g P w K mg base 3 "check_junctions" ["junctions"] F_check_junctions) (D : Dn K mg "check_city" (top 26) ["thing"]) : Cal g P w K mg base 5 "check_city" ["thing"] F_check_city :=
  Cal.of D sc_check_city rfl fun cdv A outer s H E f hr => by
    have nd := sc_check_city.nd
    exact ms_cons (ms_if (m_tnot (m_tval (m_callC c_is_row (hr.mono (by decide)) rfl takes_body (m_cons (m_var (pv 0)) (m_cons (m_int) (m_cons (m_int) (m_nil)))) (len_cons (len_cons (len_cons (len_nil))))))) (ms_cons (ms_raise X0.m_BadCity rfl takes_body (hr.mono (by decide)) rfl (m_cons (m_str) (m_cons (m_str) (m_nil)))) (ms_nil)) (ms_nil)) (ms_cons (ms_asg (m_var (pv 0)) (mg_tup rfl (mgs_cons (pg_name (i := 2) nd rfl (Or.inl rfl)) (mgs_cons (pg_name (i := 3) nd rfl (Or.inl rfl)) (mgs_cons (pg_name (i := 4) nd rfl (Or.inl rfl)) (mgs_cons (pg_name (i := 5) nd rfl (Or.inl rfl)) (mgs_nil) noEx_nil) (noEx_cons noEx_nil)) (noEx_cons (noEx_cons noEx_nil))) (noEx_cons (noEx_cons (noEx_cons noEx_nil)))))) (ms_cons (ms_expr (m_callC c_check_junctions (hr.mono (by decide)) rfl takes_body (m_cons (m_var (pv 2)) (m_nil)) (len_cons (len_nil)))) (ms_cons (ms_expr (m_callC c_check_ploughs (hr.mono (by decide)) rfl takes_body (m_cons (m_var (pv 4)) (m_cons (m_var (pv 2)) (m_nil))) (len_cons (len_cons (len_nil))))) (ms_cons (ms_expr (m_callC c_check_rules (hr.mono (by decide)) rfl takes_body (m_cons (m_var (pv 5)) (m_cons (m_b1 c_len rfl T.n_len b_len (m_var (pv 4))) (m_nil))) (len_cons (len_cons (len_nil))))) (ms_cons (ms_if (m_tnot (m_tval (m_callC c_is_row (hr.mono (by decide)) rfl takes_body (m_cons (m_var (pv 3)) (m_cons (m_int) (m_cons (m_globI rfl T.c_MOST_STREETS) (m_nil)))) (len_cons (len_cons (len_cons (len_nil))))))) (ms_cons (ms_raise X0.m_BadCity rfl takes_body (hr.mono (by decide)) rfl (m_cons (m_str) (m_cons (m_str) (m_nil)))) (ms_nil)) (ms_nil)) (ms_cons (ms_for passes_body rfl (m_iter (m_var (pv 3))) (mg_name (pg_name (i := 1) nd rfl (Or.inl rfl))) (ms_cons (ms_expr (m_callC c_check_street (hr.mono (by decide)) rfl takes_body (m_cons (m_var (pv 1)) (m_cons (m_var (pv 2)) (m_cons (m_idx (m_var (pv 5)) (m_int) (fun _ _ => rfl)) (m_nil)))) (len_cons (len_cons (len_cons (len_nil)))))) (ms_nil))) (ms_cons (ms_if (m_tnot (m_tval (m_callC c_are_unlike (hr.mono (by decide)) rfl takes_body (m_cons (m_lc rfl nd (m_iter (m_add (m_var (pv 3)) (m_var (pv 4)))) (blkOk_by (own := [("row", 6)]) (by rfl)) (fun _ _ _ _ _ => pg_name (i := 6) nd rfl (Or.inl rfl)) (tok_name (by decide)) (fun _ _ _ _ _ => mts_nil) (fun _ _ _ _ _ => m_idx (m_var (pv 6)) (m_int) (fun _ _ => rfl))) (m_nil)) (len_cons (len_nil))))) (ms_cons (ms_raise X0.m_BadCity rfl takes_body (hr.mono (by decide)) rfl (m_cons (m_str) (m_cons (m_str) (m_nil)))) (ms_nil)) (ms_nil)) (ms_nil))))))))
theorem sc_is_sky : FnScope (["city", "thing"] : List Str) ["city", "thing"] (defScope (top 35)) := ⟨rfl, rfl, rfl, by decide +kernel, rfl, by decide +kernel, by decide +kernel⟩
noncomputable def F_is_sky : List SV → Cs → R SV := runF 2 (dSeq (dTryO 1 2 (dSeq (dExpr (dCall F_check_sky (dCons (dVar 0) (dCons (dVar 1) (dNil))))) (dSkip)) (dSeq (dRet (dC (.bool false))) (dSkip))) (dSeq (dRet (dC (.bool true))) (dSkip)))
theorem ok_is_sky [TbC] {g : G} {P : Program} {w : World} {K : PySem.W.Frag} {mg : Str → Option Value} {base : Heap} (T : Top mg) (X0 : Exs g P w K mg base) (c_check_sky : Cal g P w K mg base 4 "check_sky" ["city", "thing"] F_check_sky) (D : Dn K mg "is_sky" (top 35) ["city", "thing"]) : Cal g P w K mg base 5 "is_sky" ["city", "thing"] F_is_sky :=
  Cal.of D sc_is_sky rfl fun cdv A outer s H E f hr => by
    have nd := sc_is_sky.nd
    exact ms_cons (ms_tryO (m := 1) (mx := 2) rfl rfl ⟨rfl, by decide, .inl X0.m_BadSky.at_⟩ takes_body rfl X0.x_BadSky (fun W pn xe tk pa => ms_cons (ms_expr (m_callC c_check_sky (hr.mono (by decide)) rfl tk (m_cons (m_var (pv 0)) (m_cons (m_var (pv 1)) (m_nil))) (len_cons (len_cons (len_nil))))) (ms_nil)) (fun a oe cls d pn hz hf => ms_cons (ms_ret (m_bl)) (ms_nil))) (ms_cons (ms_ret (m_bl)) (ms_nil))
theorem sc__law_hours : FnScope (["draw", "day"] : List Str) ["draw", "day"] (defScope (top 42)) := ⟨rfl, rfl, rfl, by decide +kernel, rfl, by decide +kernel, by decide +kernel⟩
noncomputable def F__law_hours : List SV → Cs → R SV := runF 2 (dSeq (dRet (dCall F__law_pick (dCons (dVar 0) (dCons (dLst (dCons (dTup (dCons (dTup (dCons (dC (.int 0)) (dCons (dVar 1) (dNil)))) (dNil))) (dCons (dTup (dCons (dTup (dCons (dC (.int 0)) (dCons (dVar 1) (dNil)))) (dNil))) (dCons (dTup (dNil)) (dCons (dTup (dCons (dTup (dCons (dC (.int 0)) (dCons (dC (.int 1)) (dNil)))) (dNil))) (dCons (dTup (dCons (dTup (dCons (dSub (dVar 1) (dC (.int 1))) (dCons (dVar 1) (dNil)))) (dNil))) (dCons (dIf (dTest (dBin (op2 gtT) (dVar 1) (dC (.int 2)))) (dTup (dCons (dTup (dCons (dC (.int 0)) (dCons (dC (.int 1)) (dNil)))) (dCons (dTup (dCons (dC (.int 2)) (dCons (dC (.int 3)) (dNil)))) (dNil)))) (dTup (dCons (dTup (dCons (dC (.int 0)) (dCons (dVar 1) (dNil)))) (dNil)))) (dNil)))))))) (dNil))))) (dSkip))
theorem ok__law_hours [TbC] {g : G} {P : Program} {w : World} {K : PySem.W.Frag} {mg : Str → Option Value} {base : Heap} (T : Top mg) (c__law_pick : Cal g P w K mg base 4 "_law_pick" ["draw", "things"] F__law_pick) (D : Dn K mg "_law_hours" (top 42) ["draw", "day"]) : Cal g P w K mg base 5 "_law_hours" ["draw", "day"] F__law_hours :=
  Cal.of D sc__law_hours rfl fun cdv A outer s H E f hr => by
    have nd := sc__law_hours.nd
    exact ms_cons (ms_ret (m_callC c__law_pick (hr.mono (by decide)) rfl takes_body (m_cons (m_var (pv 0)) (m_cons (m_lst (m_cons (m_tup (m_cons (m_tup (m_cons (m_int) (m_cons (m_var (pv 1)) (m_nil)))) (m_nil))) (m_cons (m_tup (m_cons (m_tup (m_cons (m_int) (m_cons (m_var (pv 1)) (m_nil)))) (m_nil))) (m_cons (m_tup (m_nil)) (m_cons (m_tup (m_cons (m_tup (m_cons (m_int) (m_cons (m_int) (m_nil)))) (m_nil))) (m_cons (m_tup (m_cons (m_tup (m_cons (m_sub (m_var (pv 1)) (m_int)) (m_cons (m_var (pv 1)) (m_nil)))) (m_nil))) (m_cons (m_if (m_tcmp or_gt (m_var (pv 1)) (m_int) (nomark _)) (m_tup (m_cons (m_tup (m_cons (m_int) (m_cons (m_int) (m_nil)))) (m_cons (m_tup (m_cons (m_int) (m_cons (m_int) (m_nil)))) (m_nil)))) (m_tup (m_cons (m_tup (m_cons (m_int) (m_cons (m_var (pv 1)) (m_nil)))) (m_nil)))) (m_nil)))))))) (m_nil))) (len_cons (len_cons (len_nil))))) (ms_nil)
theorem sc__law_sky : FnScope (["draw", "city", "name", "names", "states", "arcs", "turn", "some", "street"] : List Str) ["draw", "city"] (defScope (top 44)) := ⟨rfl, rfl, rfl, by decide +kernel, rfl, by decide +kernel, by decide +kernel⟩
noncomputable def F__law_sky : List SV → Cs → R SV := runF 9 (dSeq (dPar 3 4 (dCons (dSlc (dTup (dCons (dC (.str "k0")) (dCons (dC (.str "k1")) (dCons (dC (.str "k2")) (dNil))))) (dNo) (dPart (dAdd (dC (.int 1)) (dCall F__law_next (dCons (dVar 0) (dCons (dAdd (dC (.int 2)) (dCall F__law_next (dCons (dVar 0) (dCons (dC (.int 2)) (dNil))))) (dNil))))))) (dCons (dLstN (dNil)) (dNil)))) (dSeq (dFor (dIter (dVar 3)) (tgName 2) (dSeq (dAsg (dLstN (dNil)) (tgName 5)) (dSeq (dFor (dRng1 (dAdd (dC (.int 1)) (dCall F__law_next (dCons (dVar 0) (dCons (dC (.int 2)) (dNil)))))) (tgName 6) (dSeq (dAsg (dUn tupleT (dComp (dIter (dIdx (dVar 1) (dC (.int 1)))) (tgName 8) (dTest (dBin (op2 eqO) (dCall F__law_next (dCons (dVar 0) (dCons (dC (.int 3)) (dNil)))) (dC (.int 0)))) (dIdx (dVar 8) (dC (.int 0))) [8])) (tgName 7)) (dSeq (dExpr (dApp (dVar 5) (dTup (dCons (dCall F__law_pick (dCons (dVar 0) (dCons (dVar 3) (dNil)))) (dCons (dVar 7) (dNil)))))) (dSkip)))) (dSeq (dExpr (dApp (dVar 4) (dTup (dCons (dVar 2) (dCons (dUn tupleT (dVar 5)) (dNil)))))) (dSkip))))) (dSeq (dRet (dTup (dCons (dIdx (dVar 3) (dC (.int 0))) (dCons (dUn tupleT (dVar 4)) (dNil))))) (dSkip))))
theorem ok__law_sky [TbC] {g : G} {P : Program} {w : World} {K : PySem.W.Frag} {mg : Str → Option Value} {base : Heap} (T : Top mg) (c__law_next : Cal g P w K mg base 3 "_law_next" ["draw", "bound"] F__law_next) (c__law_pick : Cal g P w K mg base 4 "_law_pick" ["draw", "things"] F__law_pick) (D : Dn K mg "_law_sky" (top 44) ["draw", "city"]) : Cal g P w K mg base 5 "_law_sky" ["draw", "city"] F__law_sky :=
  Cal.of D sc__law_sky rfl fun cdv A outer s H E f hr => by
    have nd := sc__law_sky.nd
    exact ms_cons (m_par (i := 3) (j := 4) rfl nd rfl rfl (by decide) rfl rfl (m_cons (m_slc (m_tup (m_cons (m_str) (m_cons (m_str) (m_cons (m_str) (m_nil))))) (m_no) (m_part (m_add (m_int) (m_callC c__law_next (hr.mono (by decide)) rfl takes_body (m_cons (m_var (pv 0)) (m_cons (m_add (m_int) (m_callC c__law_next (hr.mono (by decide)) rfl takes_body (m_cons (m_var (pv 0)) (m_cons (m_int) (m_nil))) (len_cons (len_cons (len_nil))))) (m_nil))) (len_cons (len_cons (len_nil))))))) (m_cons (m_lstN (m_nil)) (m_nil))) (by rfl) (by rfl)) (ms_cons (ms_for passes_body rfl (m_iter (m_var (pv 3))) (mg_name (pg_name (i := 2) nd rfl (Or.inl rfl))) (ms_cons (ms_set (i := 5) nd rfl (Or.inl rfl) (m_lstN (m_nil))) (ms_cons (ms_for passes_body rfl (m_rng1 (by rfl) T.n_range (m_add (m_int) (m_callC c__law_next (hr.mono (by decide)) rfl takes_body (m_cons (m_var (pv 0)) (m_cons (m_int) (m_nil))) (len_cons (len_cons (len_nil)))))) (mg_name (pg_name (i := 6) nd rfl (Or.inl rfl))) (ms_cons (ms_set (i := 7) nd rfl (Or.inl rfl) (m_t1 c_tuple rfl T.n_tuple b_tuple (m_lc rfl nd (m_iter (m_idx (m_var (pv 1)) (m_int) (fun _ _ => rfl))) (blkOk_by (own := [("street", 8)]) (by rfl)) (fun _ _ _ _ _ => pg_name (i := 8) nd rfl (Or.inl rfl)) (tok_name (by decide)) (fun _ _ _ _ _ => mts_one (m_tcmp (or_eq (hu64 hr)) (m_callC c__law_next (hr.mono (by decide)) rfl takes0 (m_cons (m_var (pv 0)) (m_cons (m_int) (m_nil))) (len_cons (len_cons (len_nil)))) (m_int) (nomark _))) (fun _ _ _ _ _ => m_idx (m_var (pv 8)) (m_int) (fun _ _ => rfl))))) (ms_cons (ms_expr (m_app (m_var (pv 5)) (m_tup (m_cons (m_callC c__law_pick (hr.mono (by decide)) rfl takes_body (m_cons (m_var (pv 0)) (m_cons (m_var (pv 3)) (m_nil))) (len_cons (len_cons (len_nil)))) (m_cons (m_var (pv 7)) (m_nil)))))) (ms_nil)))) (ms_cons (ms_expr (m_app (m_var (pv 4)) (m_tup (m_cons (m_var (pv 2)) (m_cons (m_t1 c_tuple rfl T.n_tuple b_tuple (m_var (pv 5))) (m_nil)))))) (ms_nil))))) (ms_cons (ms_ret (m_tup (m_cons (m_idx (m_var (pv 3)) (m_int) (fun _ _ => rfl)) (m_cons (m_t1 c_tuple rfl T.n_tuple b_tuple (m_var (pv 4))) (m_nil))))) (ms_nil)))
theorem sc__law_bent_street : FnScope (["draw", "street", "day"] : List Str) ["draw", "street", "day"] (defScope (top 46)) := ⟨rfl, rfl, rfl, by decide +kernel, rfl, by decide +kernel, by decide +kernel⟩
noncomputable def F__law_bent_street : List SV → Cs → R SV := runF 3 (dSeq (dRet (dCall F__law_pick (dCons (dVar 0) (dCons (dLst (dCons (dTup (dCons (dCall F__law_put (dCons (dVar 1) (dCons (dC (.int 0)) (dCons (dC (.str "A")) (dNil))))) (dCons (dC (.bool false)) (dNil)))) (dCons (dTup (dCons (dCall F__law_put (dCons (dVar 1) (dCons (dC (.int 0)) (dCons (dC (.str "a2345678")) (dNil))))) (dCons (dC (.bool true)) (dNil)))) (dCons (dTup (dCons (dCall F__law_put (dCons (dVar 1) (dCons (dC (.int 0)) (dCons (dC (.str "a23456789")) (dNil))))) (dCons (dC (.bool false)) (dNil)))) (dCons (dTup (dCons (dCall F__law_put (dCons (dVar 1) (dCons (dC (.int 0)) (dCons (dC (.str "2a")) (dNil))))) (dCons (dC (.bool false)) (dNil)))) (dCons (dTup (dCons (dCall F__law_put (dCons (dVar 1) (dCons (dC (.int 1)) (dCons (dC (.str "zz")) (dNil))))) (dCons (dC (.bool false)) (dNil)))) (dCons (dTup (dCons (dCall F__law_put (dCons (dVar 1) (dCons (dC (.int 2)) (dCons (dIdx (dVar 1) (dC (.int 1))) (dNil))))) (dCons (dC (.bool false)) (dNil)))) (dCons (dTup (dCons (dAdd (dAdd (dSlc (dVar 1) (dNo) (dPart (dC (.int 3)))) (dTup (dCons (dC (.int 0)) (dCons (dC (.int 3)) (dNil))))) (dSlc (dVar 1) (dPart (dC (.int 5))) (dNo))) (dCons (dC (.bool false)) (dNil)))) (dCons (dTup (dCons (dAdd (dAdd (dSlc (dVar 1) (dNo) (dPart (dC (.int 3)))) (dTup (dCons (dC (.int 9)) (dCons (dC (.int 20)) (dNil))))) (dSlc (dVar 1) (dPart (dC (.int 5))) (dNo))) (dCons (dC (.bool true)) (dNil)))) (dCons (dTup (dCons (dAdd (dAdd (dSlc (dVar 1) (dNo) (dPart (dC (.int 3)))) (dTup (dCons (dC (.int 10)) (dCons (dC (.int 20)) (dNil))))) (dSlc (dVar 1) (dPart (dC (.int 5))) (dNo))) (dCons (dC (.bool false)) (dNil)))) (dCons (dTup (dCons (dAdd (dAdd (dSlc (dVar 1) (dNo) (dPart (dC (.int 3)))) (dTup (dCons (dC (.int 9)) (dCons (dC (.int 21)) (dNil))))) (dSlc (dVar 1) (dPart (dC (.int 5))) (dNo))) (dCons (dC (.bool false)) (dNil)))) (dCons (dTup (dCons (dAdd (dAdd (dSlc (dVar 1) (dNo) (dPart (dC (.int 3)))) (dTup (dCons (dC (.int 3)) (dCons (dC (.int 2)) (dNil))))) (dSlc (dVar 1) (dPart (dC (.int 5))) (dNo))) (dCons (dC (.bool false)) (dNil)))) (dCons (dTup (dCons (dCall F__law_put (dCons (dVar 1) (dCons (dC (.int 5)) (dCons (dC (.int 10)) (dNil))))) (dCons (dC (.bool false)) (dNil)))) (dCons (dTup (dCons (dCall F__law_put (dCons (dVar 1) (dCons (dC (.int 5)) (dCons (dC (.int 9)) (dNil))))) (dCons (dC (.bool true)) (dNil)))) (dCons (dTup (dCons (dCall F__law_put (dCons (dVar 1) (dCons (dC (.int 5)) (dCons (dUn negT (dC (.int 1))) (dNil))))) (dCons (dC (.bool false)) (dNil)))) (dCons (dTup (dCons (dCall F__law_put (dCons (dVar 1) (dCons (dC (.int 5)) (dCons (dC (.bool true)) (dNil))))) (dCons (dC (.bool false)) (dNil)))) (dCons (dTup (dCons (dCall F__law_put (dCons (dVar 1) (dCons (dC (.int 6)) (dCons (dTup (dCons (dTup (dCons (dC (.int 0)) (dCons (dAdd (dVar 2) (dC (.int 1))) (dNil)))) (dNil))) (dNil))))) (dCons (dC (.bool false)) (dNil)))) (dCons (dTup (dCons (dCall F__law_put (dCons (dVar 1) (dCons (dC (.int 6)) (dCons (dTup (dCons (dTup (dCons (dC (.int 1)) (dCons (dC (.int 1)) (dNil)))) (dNil))) (dNil))))) (dCons (dC (.bool false)) (dNil)))) (dCons (dTup (dCons (dCall F__law_put (dCons (dVar 1) (dCons (dC (.int 6)) (dCons (dTup (dCons (dTup (dCons (dC (.int 0)) (dCons (dC (.int 1)) (dNil)))) (dCons (dTup (dCons (dC (.int 1)) (dCons (dC (.int 2)) (dNil)))) (dNil)))) (dNil))))) (dCons (dC (.bool false)) (dNil)))) (dCons (dTup (dCons (dCall F__law_put (dCons (dVar 1) (dCons (dC (.int 6)) (dCons (dLst (dCons (dTup (dCons (dC (.int 0)) (dCons (dVar 2) (dNil)))) (dNil))) (dNil))))) (dCons (dC (.bool false)) (dNil)))) (dCons (dTup (dCons (dCall F__law_put (dCons (dVar 1) (dCons (dC (.int 6)) (dCons (dTup (dCons (dTup (dCons (dUn negT (dC (.int 1))) (dCons (dC (.int 1)) (dNil)))) (dNil))) (dNil))))) (dCons (dC (.bool false)) (dNil)))) (dCons (dTup (dCons (dSlc (dVar 1) (dNo) (dPart (dC (.int 6)))) (dCons (dC (.bool false)) (dNil)))) (dCons (dTup (dCons (dUn listT (dVar 1)) (dCons (dC (.bool false)) (dNil)))) (dCons (dTup (dCons (dCall F__law_put (dCons (dVar 1) (dCons (dC (.int 6)) (dCons (dTup (dCons (dTup (dCons (dC (.int 0)) (dCons (dVar 2) (dNil)))) (dCons (dTup (dCons (dC (.int 0)) (dCons (dVar 2) (dNil)))) (dNil)))) (dNil))))) (dCons (dC (.bool false)) (dNil)))) (dNil))))))))))))))))))))))))) (dNil))))) (dSkip))
theorem ok__law_bent_street [TbC] {g : G} {P : Program} {w : World} {K : PySem.W.Frag} {mg : Str → Option Value} {base : Heap} (T : Top mg) (c__law_pick : Cal g P w K mg base 4 "_law_pick" ["draw", "things"] F__law_pick) (c__law_put : Cal g P w K mg base 1 "_law_put" ["row", "at", "thing"] F__law_put) (D : Dn K mg "_law_bent_street" (top 46) ["draw", "street", "day"]) : Cal g P w K mg base 5 "_law_bent_street" ["draw", "street", "day"] F__law_bent_street :=
  Cal.of D sc__law_bent_street rfl fun cdv A outer s H E f hr => by
    have nd := sc__law_bent_street.nd
    exact ms_cons (ms_ret (m_callC c__law_pick (hr.mono (by decide)) rfl takes_body (m_cons (m_var (pv 0)) (m_cons (m_lst (m_cons (m_tup (m_cons (m_callC c__law_put (hr.mono (by decide)) rfl takes_body (m_cons (m_var (pv 1)) (m_cons (m_int) (m_cons (m_str) (m_nil)))) (len_cons (len_cons (len_cons (len_nil))))) (m_cons (m_bl) (m_nil)))) (m_cons (m_tup (m_cons (m_callC c__law_put (hr.mono (by decide)) rfl takes_body (m_cons (m_var (pv 1)) (m_cons (m_int) (m_cons (m_str) (m_nil)))) (len_cons (len_cons (len_cons (len_nil))))) (m_cons (m_bl) (m_nil)))) (m_cons (m_tup (m_cons (m_callC c__law_put (hr.mono (by decide)) rfl takes_body (m_cons (m_var (pv 1)) (m_cons (m_int) (m_cons (m_str) (m_nil)))) (len_cons (len_cons (len_cons (len_nil))))) (m_cons (m_bl) (m_nil)))) (m_cons (m_tup (m_cons (m_callC c__law_put (hr.mono (by decide)) rfl takes_body (m_cons (m_var (pv 1)) (m_cons (m_int) (m_cons (m_str) (m_nil)))) (len_cons (len_cons (len_cons (len_nil))))) (m_cons (m_bl) (m_nil)))) (m_cons (m_tup (m_cons (m_callC c__law_put (hr.mono (by decide)) rfl takes_body (m_cons (m_var (pv 1)) (m_cons (m_int) (m_cons (m_str) (m_nil)))) (len_cons (len_cons (len_cons (len_nil))))) (m_cons (m_bl) (m_nil)))) (m_cons (m_tup (m_cons (m_callC c__law_put (hr.mono (by decide)) rfl takes_body (m_cons (m_var (pv 1)) (m_cons (m_int) (m_cons (m_idx (m_var (pv 1)) (m_int) (fun _ _ => rfl)) (m_nil)))) (len_cons (len_cons (len_cons (len_nil))))) (m_cons (m_bl) (m_nil)))) (m_cons (m_tup (m_cons (m_add (m_add (m_slc (m_var (pv 1)) (m_no) (m_part (m_int))) (m_tup (m_cons (m_int) (m_cons (m_int) (m_nil))))) (m_slc (m_var (pv 1)) (m_part (m_int)) (m_no))) (m_cons (m_bl) (m_nil)))) (m_cons (m_tup (m_cons (m_add (m_add (m_slc (m_var (pv 1)) (m_no) (m_part (m_int))) (m_tup (m_cons (m_int) (m_cons (m_int) (m_nil))))) (m_slc (m_var (pv 1)) (m_part (m_int)) (m_no))) (m_cons (m_bl) (m_nil)))) (m_cons (m_tup (m_cons (m_add (m_add (m_slc (m_var (pv 1)) (m_no) (m_part (m_int))) (m_tup (m_cons (m_int) (m_cons (m_int) (m_nil))))) (m_slc (m_var (pv 1)) (m_part (m_int)) (m_no))) (m_cons (m_bl) (m_nil)))) (m_cons (m_tup (m_cons (m_add (m_add (m_slc (m_var (pv 1)) (m_no) (m_part (m_int))) (m_tup (m_cons (m_int) (m_cons (m_int) (m_nil))))) (m_slc (m_var (pv 1)) (m_part (m_int)) (m_no))) (m_cons (m_bl) (m_nil)))) (m_cons (m_tup (m_cons (m_add (m_add (m_slc (m_var (pv 1)) (m_no) (m_part (m_int))) (m_tup (m_cons (m_int) (m_cons (m_int) (m_nil))))) (m_slc (m_var (pv 1)) (m_part (m_int)) (m_no))) (m_cons (m_bl) (m_nil)))) (m_cons (m_tup (m_cons (m_callC c__law_put (hr.mono (by decide)) rfl takes_body (m_cons (m_var (pv 1)) (m_cons (m_int) (m_cons (m_int) (m_nil)))) (len_cons (len_cons (len_cons (len_nil))))) (m_cons (m_bl) (m_nil)))) (m_cons (m_tup (m_cons (m_callC c__law_put (hr.mono (by decide)) rfl takes_body (m_cons (m_var (pv 1)) (m_cons (m_int) (m_cons (m_int) (m_nil)))) (len_cons (len_cons (len_cons (len_nil))))) (m_cons (m_bl) (m_nil)))) (m_cons (m_tup (m_cons (m_callC c__law_put (hr.mono (by decide)) rfl takes_body (m_cons (m_var (pv 1)) (m_cons (m_int) (m_cons (m_neg (m_int)) (m_nil)))) (len_cons (len_cons (len_cons (len_nil))))) (m_cons (m_bl) (m_nil)))) (m_cons (m_tup (m_cons (m_callC c__law_put (hr.mono (by decide)) rfl takes_body (m_cons (m_var (pv 1)) (m_cons (m_int) (m_cons (m_bl) (m_nil)))) (len_cons (len_cons (len_cons (len_nil))))) (m_cons (m_bl) (m_nil)))) (m_cons (m_tup (m_cons (m_callC c__law_put (hr.mono (by decide)) rfl takes_body (m_cons (m_var (pv 1)) (m_cons (m_int) (m_cons (m_tup (m_cons (m_tup (m_cons (m_int) (m_cons (m_add (m_var (pv 2)) (m_int)) (m_nil)))) (m_nil))) (m_nil)))) (len_cons (len_cons (len_cons (len_nil))))) (m_cons (m_bl) (m_nil)))) (m_cons (m_tup (m_cons (m_callC c__law_put (hr.mono (by decide)) rfl takes_body (m_cons (m_var (pv 1)) (m_cons (m_int) (m_cons (m_tup (m_cons (m_tup (m_cons (m_int) (m_cons (m_int) (m_nil)))) (m_nil))) (m_nil)))) (len_cons (len_cons (len_cons (len_nil))))) (m_cons (m_bl) (m_nil)))) (m_cons (m_tup (m_cons (m_callC c__law_put (hr.mono (by decide)) rfl takes_body (m_cons (m_var (pv 1)) (m_cons (m_int) (m_cons (m_tup (m_cons (m_tup (m_cons (m_int) (m_cons (m_int) (m_nil)))) (m_cons (m_tup (m_cons (m_int) (m_cons (m_int) (m_nil)))) (m_nil)))) (m_nil)))) (len_cons (len_cons (len_cons (len_nil))))) (m_cons (m_bl) (m_nil)))) (m_cons (m_tup (m_cons (m_callC c__law_put (hr.mono (by decide)) rfl takes_body (m_cons (m_var (pv 1)) (m_cons (m_int) (m_cons (m_lst (m_cons (m_tup (m_cons (m_int) (m_cons (m_var (pv 2)) (m_nil)))) (m_nil))) (m_nil)))) (len_cons (len_cons (len_cons (len_nil))))) (m_cons (m_bl) (m_nil)))) (m_cons (m_tup (m_cons (m_callC c__law_put (hr.mono (by decide)) rfl takes_body (m_cons (m_var (pv 1)) (m_cons (m_int) (m_cons (m_tup (m_cons (m_tup (m_cons (m_neg (m_int)) (m_cons (m_int) (m_nil)))) (m_nil))) (m_nil)))) (len_cons (len_cons (len_cons (len_nil))))) (m_cons (m_bl) (m_nil)))) (m_cons (m_tup (m_cons (m_slc (m_var (pv 1)) (m_no) (m_part (m_int))) (m_cons (m_bl) (m_nil)))) (m_cons (m_tup (m_cons (m_t1 c_list rfl T.n_list b_list (m_var (pv 1))) (m_cons (m_bl) (m_nil)))) (m_cons (m_tup (m_cons (m_callC c__law_put (hr.mono (by decide)) rfl takes_body (m_cons (m_var (pv 1)) (m_cons (m_int) (m_cons (m_tup (m_cons (m_tup (m_cons (m_int) (m_cons (m_var (pv 2)) (m_nil)))) (m_cons (m_tup (m_cons (m_int) (m_cons (m_var (pv 2)) (m_nil)))) (m_nil)))) (m_nil)))) (len_cons (len_cons (len_cons (len_nil))))) (m_cons (m_bl) (m_nil)))) (m_nil))))))))))))))))))))))))) (m_nil))) (len_cons (len_cons (len_nil))))) (ms_nil)
theorem sc__law_bent_sky : FnScope (["draw", "city", "sky", "state", "states", "name", "arcs", "rest", "street"] : List Str) ["draw", "city", "sky"] (defScope (top 48)) := ⟨rfl, rfl, rfl, by decide +kernel, rfl, by decide +kernel, by decide +kernel⟩
noncomputable def F__law_bent_sky : List SV → Cs → R SV := runF 9 (dSeq (dAsg (dVar 2) (tgTup 2 (tgCons 3 (tgCons 4 (tgNil))))) (dSeq (dAsg (dIdx (dVar 4) (dC (.int 0))) (tgTup 2 (tgCons 5 (tgCons 6 (tgNil))))) (dSeq (dPar 7 8 (dCons (dSlc (dVar 4) (dPart (dC (.int 1))) (dNo)) (dCons (dIdx (dIdx (dIdx (dVar 1) (dC (.int 1))) (dC (.int 0))) (dC (.int 0))) (dNil)))) (dSeq (dRet (dCall F__law_pick (dCons (dVar 0) (dCons (dLst (dCons (dTup (dCons (dTup (dCons (dC (.str "zz")) (dCons (dVar 4) (dNil)))) (dCons (dC (.bool false)) (dNil)))) (dCons (dTup (dCons (dTup (dCons (dVar 3) (dCons (dTup (dNil)) (dNil)))) (dCons (dC (.bool false)) (dNil)))) (dCons (dTup (dCons (dTup (dCons (dVar 3) (dCons (dAdd (dTup (dCons (dTup (dCons (dVar 5) (dCons (dTup (dNil)) (dNil)))) (dNil))) (dVar 7)) (dNil)))) (dCons (dC (.bool false)) (dNil)))) (dCons (dTup (dCons (dTup (dCons (dVar 3) (dCons (dAdd (dTup (dCons (dTup (dCons (dVar 5) (dCons (dAdd (dVar 6) (dTup (dCons (dTup (dCons (dC (.str "zz")) (dCons (dTup (dNil)) (dNil)))) (dNil)))) (dNil)))) (dNil))) (dVar 7)) (dNil)))) (dCons (dC (.bool false)) (dNil)))) (dCons (dTup (dCons (dTup (dCons (dVar 3) (dCons (dAdd (dTup (dCons (dTup (dCons (dVar 5) (dCons (dAdd (dVar 6) (dTup (dCons (dTup (dCons (dVar 5) (dCons (dTup (dCons (dVar 8) (dNil))) (dNil)))) (dNil)))) (dNil)))) (dNil))) (dVar 7)) (dNil)))) (dCons (dC (.bool true)) (dNil)))) (dCons (dTup (dCons (dTup (dCons (dVar 3) (dCons (dAdd (dTup (dCons (dTup (dCons (dVar 5) (dCons (dAdd (dVar 6) (dTup (dCons (dTup (dCons (dVar 5) (dCons (dTup (dCons (dVar 8) (dCons (dVar 8) (dNil)))) (dNil)))) (dNil)))) (dNil)))) (dNil))) (dVar 7)) (dNil)))) (dCons (dC (.bool false)) (dNil)))) (dCons (dTup (dCons (dTup (dCons (dVar 3) (dCons (dAdd (dTup (dCons (dTup (dCons (dVar 5) (dCons (dAdd (dVar 6) (dTup (dCons (dTup (dCons (dVar 5) (dCons (dTup (dCons (dC (.str "zz")) (dNil))) (dNil)))) (dNil)))) (dNil)))) (dNil))) (dVar 7)) (dNil)))) (dCons (dC (.bool false)) (dNil)))) (dCons (dTup (dCons (dTup (dCons (dVar 3) (dCons (dAdd (dVar 4) (dSlc (dVar 4) (dNo) (dPart (dC (.int 1))))) (dNil)))) (dCons (dC (.bool false)) (dNil)))) (dCons (dTup (dCons (dTup (dCons (dVar 3) (dCons (dUn listT (dVar 4)) (dNil)))) (dCons (dC (.bool false)) (dNil)))) (dCons (dTup (dCons (dTup (dCons (dVar 3) (dNil))) (dCons (dC (.bool false)) (dNil)))) (dCons (dTup (dCons (dC .none) (dCons (dC (.bool false)) (dNil)))) (dCons (dTup (dCons (dTup (dCons (dVar 3) (dCons (dAdd (dTup (dCons (dTup (dCons (dVar 5) (dCons (dMul (dVar 6) (dC (.int 13))) (dNil)))) (dNil))) (dVar 7)) (dNil)))) (dCons (dC (.bool false)) (dNil)))) (dCons (dTup (dCons (dTup (dCons (dVar 3) (dCons (dAdd (dTup (dCons (dTup (dCons (dVar 5) (dCons (dMul (dSlc (dVar 6) (dNo) (dPart (dC (.int 1)))) (dC (.int 12))) (dNil)))) (dNil))) (dVar 7)) (dNil)))) (dCons (dC (.bool true)) (dNil)))) (dCons (dTup (dCons (dTup (dCons (dVar 3) (dCons (dAdd (dVar 4) (dTup (dCons (dTup (dCons (dC (.str "K")) (dCons (dVar 6) (dNil)))) (dNil)))) (dNil)))) (dCons (dC (.bool false)) (dNil)))) (dCons (dTup (dCons (dTup (dCons (dVar 3) (dCons (dAdd (dVar 4) (dTup (dCons (dTup (dCons (dC (.str "q9")) (dCons (dVar 6) (dNil)))) (dNil)))) (dNil)))) (dCons (dC (.bool true)) (dNil)))) (dNil))))))))))))))))) (dNil))))) (dSkip)))))
theorem ok__law_bent_sky [TbC] {g : G} {P : Program} {w : World} {K : PySem.W.Frag} {mg : Str → Option Value} {base : Heap} (T : Top mg) (c__law_pick : Cal g P w K mg base 4 "_law_pick" ["draw", "things"] F__law_pick) (D : Dn K mg "_law_bent_sky" (top 48) ["draw", "city", "sky"]) : Cal g P w K mg base 5 "_law_bent_sky" ["draw", "city", "sky"] F__law_bent_sky :=
  Cal.of D sc__law_bent_sky rfl fun cdv A outer s H E f hr => by
    have nd := sc__law_bent_sky.nd
    exact ms_cons (ms_asg (m_var (pv 2)) (mg_tup rfl (mgs_cons (pg_name (i := 3) nd rfl (Or.inl rfl)) (mgs_cons (pg_name (i := 4) nd rfl (Or.inl rfl)) (mgs_nil) noEx_nil) (noEx_cons noEx_nil)))) (ms_cons (ms_asg (m_idx (m_var (pv 4)) (m_int) (fun _ _ => rfl)) (mg_tup rfl (mgs_cons (pg_name (i := 5) nd rfl (Or.inl rfl)) (mgs_cons (pg_name (i := 6) nd rfl (Or.inl rfl)) (mgs_nil) noEx_nil) (noEx_cons noEx_nil)))) (ms_cons (m_par (i := 7) (j := 8) rfl nd rfl rfl (by decide) rfl rfl (m_cons (m_slc (m_var (pv 4)) (m_part (m_int)) (m_no)) (m_cons (m_idx (m_idx (m_idx (m_var (pv 1)) (m_int) (fun _ _ => rfl)) (m_int) (fun _ _ => rfl)) (m_int) (fun _ _ => rfl)) (m_nil))) (by rfl) (by rfl)) (ms_cons (ms_ret (m_callC c__law_pick (hr.mono (by decide)) rfl takes_body (m_cons (m_var (pv 0)) (m_cons (m_lst (m_cons (m_tup (m_cons (m_tup (m_cons (m_str) (m_cons (m_var (pv 4)) (m_nil)))) (m_cons (m_bl) (m_nil)))) (m_cons (m_tup (m_cons (m_tup (m_cons (m_var (pv 3)) (m_cons (m_tup (m_nil)) (m_nil)))) (m_cons (m_bl) (m_nil)))) (m_cons (m_tup (m_cons (m_tup (m_cons (m_var (pv 3)) (m_cons (m_add (m_tup (m_cons (m_tup (m_cons (m_var (pv 5)) (m_cons (m_tup (m_nil)) (m_nil)))) (m_nil))) (m_var (pv 7))) (m_nil)))) (m_cons (m_bl) (m_nil)))) (m_cons (m_tup (m_cons (m_tup (m_cons (m_var (pv 3)) (m_cons (m_add (m_tup (m_cons (m_tup (m_cons (m_var (pv 5)) (m_cons (m_add (m_var (pv 6)) (m_tup (m_cons (m_tup (m_cons (m_str) (m_cons (m_tup (m_nil)) (m_nil)))) (m_nil)))) (m_nil)))) (m_nil))) (m_var (pv 7))) (m_nil)))) (m_cons (m_bl) (m_nil)))) (m_cons (m_tup (m_cons (m_tup (m_cons (m_var (pv 3)) (m_cons (m_add (m_tup (m_cons (m_tup (m_cons (m_var (pv 5)) (m_cons (m_add (m_var (pv 6)) (m_tup (m_cons (m_tup (m_cons (m_var (pv 5)) (m_cons (m_tup (m_cons (m_var (pv 8)) (m_nil))) (m_nil)))) (m_nil)))) (m_nil)))) (m_nil))) (m_var (pv 7))) (m_nil)))) (m_cons (m_bl) (m_nil)))) (m_cons (m_tup (m_cons (m_tup (m_cons (m_var (pv 3)) (m_cons (m_add (m_tup (m_cons (m_tup (m_cons (m_var (pv 5)) (m_cons (m_add (m_var (pv 6)) (m_tup (m_cons (m_tup (m_cons (m_var (pv 5)) (m_cons (m_tup (m_cons (m_var (pv 8)) (m_cons (m_var (pv 8)) (m_nil)))) (m_nil)))) (m_nil)))) (m_nil)))) (m_nil))) (m_var (pv 7))) (m_nil)))) (m_cons (m_bl) (m_nil)))) (m_cons (m_tup (m_cons (m_tup (m_cons (m_var (pv 3)) (m_cons (m_add (m_tup (m_cons (m_tup (m_cons (m_var (pv 5)) (m_cons (m_add (m_var (pv 6)) (m_tup (m_cons (m_tup (m_cons (m_var (pv 5)) (m_cons (m_tup (m_cons (m_str) (m_nil))) (m_nil)))) (m_nil)))) (m_nil)))) (m_nil))) (m_var (pv 7))) (m_nil)))) (m_cons (m_bl) (m_nil)))) (m_cons (m_tup (m_cons (m_tup (m_cons (m_var (pv 3)) (m_cons (m_add (m_var (pv 4)) (m_slc (m_var (pv 4)) (m_no) (m_part (m_int)))) (m_nil)))) (m_cons (m_bl) (m_nil)))) (m_cons (m_tup (m_cons (m_tup (m_cons (m_var (pv 3)) (m_cons (m_t1 c_list rfl T.n_list b_list (m_var (pv 4))) (m_nil)))) (m_cons (m_bl) (m_nil)))) (m_cons (m_tup (m_cons (m_tup (m_cons (m_var (pv 3)) (m_nil))) (m_cons (m_bl) (m_nil)))) (m_cons (m_tup (m_cons (m_non) (m_cons (m_bl) (m_nil)))) (m_cons (m_tup (m_cons (m_tup (m_cons (m_var (pv 3)) (m_cons (m_add (m_tup (m_cons (m_tup (m_cons (m_var (pv 5)) (m_cons (m_mul (m_var (pv 6)) (m_int)) (m_nil)))) (m_nil))) (m_var (pv 7))) (m_nil)))) (m_cons (m_bl) (m_nil)))) (m_cons (m_tup (m_cons (m_tup (m_cons (m_var (pv 3)) (m_cons (m_add (m_tup (m_cons (m_tup (m_cons (m_var (pv 5)) (m_cons (m_mul (m_slc (m_var (pv 6)) (m_no) (m_part (m_int))) (m_int)) (m_nil)))) (m_nil))) (m_var (pv 7))) (m_nil)))) (m_cons (m_bl) (m_nil)))) (m_cons (m_tup (m_cons (m_tup (m_cons (m_var (pv 3)) (m_cons (m_add (m_var (pv 4)) (m_tup (m_cons (m_tup (m_cons (m_str) (m_cons (m_var (pv 6)) (m_nil)))) (m_nil)))) (m_nil)))) (m_cons (m_bl) (m_nil)))) (m_cons (m_tup (m_cons (m_tup (m_cons (m_var (pv 3)) (m_cons (m_add (m_var (pv 4)) (m_tup (m_cons (m_tup (m_cons (m_str) (m_cons (m_var (pv 6)) (m_nil)))) (m_nil)))) (m_nil)))) (m_cons (m_bl) (m_nil)))) (m_nil))))))))))))))))) (m_nil))) (len_cons (len_cons (len_nil))))) (ms_nil))))
theorem sc_is_city : FnScope (["thing"] : List Str) ["thing"] (defScope (top 32)) := ⟨rfl, rfl, rfl, by decide +kernel, rfl, by decide +kernel, by decide +kernel⟩
noncomputable def F_is_city : List SV → Cs → R SV := runF 1 (dSeq (dTryO 0 2 (dSeq (dExpr (dCall F_check_city (dCons (dVar 0) (dNil)))) (dSkip)) (dSeq (dRet (dC (.bool false))) (dSkip))) (dSeq (dRet (dC (.bool true))) (dSkip)))
theorem ok_is_city [TbC] {g : G} {P : Program} {w : World} {K : PySem.W.Frag} {mg : Str → Option Value} {base : Heap} (T : Top mg) (X0 : Exs g P w K mg base) (c_check_city : Cal g P w K mg base 5 "check_city" ["thing"] F_check_city) (D : Dn K mg "is_city" (top 32) ["thing"]) : Cal g P w K mg base 6 "is_city" ["thing"] F_is_city :=
  Cal.of D sc_is_city rfl fun cdv A outer s H E f hr => by
    have nd := sc_is_city.nd
    exact ms_cons (ms_tryO (m := 0) (mx := 2) rfl rfl ⟨rfl, by decide, .inl X0.m_BadCity.at_⟩ takes_body rfl X0.x_BadCity (fun W pn xe tk pa => ms_cons (ms_expr (m_callC c_check_city (hr.mono (by decide)) rfl tk (m_cons (m_var (pv 0)) (m_nil)) (len_cons (len_nil)))) (ms_nil)) (fun a oe cls d pn hz hf => ms_cons (ms_ret (m_bl)) (ms_nil))) (ms_cons (ms_ret (m_bl)) (ms_nil))
theorem sc__law_city : FnScope (["draw", "most", "number", "ploughs", "day", "junctions", "streets", "many", "one", "other", "go", "late", "falls", "junction"] : List Str) ["draw", "most"] (defScope (top 43)) := ⟨rfl, rfl, rfl, by decide +kernel, rfl, by decide +kernel, by decide +kernel⟩
noncomputable def F__law_city : List SV → Cs → R SV := runF 14 (dSeq (dAsg (dTup (dCons (dAdd (dC (.int 1)) (dCall F__law_next (dCons (dVar 0) (dCons (dC (.int 3)) (dNil))))) (dCons (dSlc (dTup (dCons (dC (.str "a")) (dCons (dC (.str "b")) (dCons (dC (.str "c")) (dNil))))) (dNo) (dPart (dAdd (dC (.int 2)) (dCall F__law_next (dCons (dVar 0) (dCons (dC (.int 2)) (dNil))))))) (dNil)))) (tgTup 2 (tgCons 4 (tgCons 5 (tgNil))))) (dSeq (dPar 6 7 (dCons (dLstN (dNil)) (dCons (dAdd (dC (.int 1)) (dIf (dTest (dBin (op2 gtT) (dCall F__law_next (dCons (dVar 0) (dCons (dC (.int 4)) (dNil)))) (dC (.int 0)))) (dC (.int 0)) (dCall F__law_next (dCons (dVar 0) (dCons (dVar 1) (dNil)))))) (dNil)))) (dSeq (dFor (dRng1 (dIf (dTest (dBin (op2 gtT) (dVar 7) (dC (.int 1)))) (dC (.int 1)) (dAdd (dC (.int 1)) (dCall F__law_next (dCons (dVar 0) (dCons (dC (.int 2)) (dNil))))))) (tgName 2) (dSeq (dAsg (dCall F__law_pick (dCons (dVar 0) (dCons (dVar 5) (dNil)))) (tgName 8)) (dSeq (dAsg (dCall F__law_pick (dCons (dVar 0) (dCons (dComp (dIter (dVar 5)) (tgName 13) (dTest (dBin (op2 neO) (dVar 13) (dVar 8))) (dVar 13) [13]) (dNil)))) (tgName 9)) (dSeq (dAsg (dAdd (dC (.int 1)) (dFdiv (dCall F__law_next (dCons (dVar 0) (dCons (dC (.int 2)) (dNil)))) (dAdd (dC (.int 1)) (dCall F__law_next (dCons (dVar 0) (dCons (dC (.int 2)) (dNil))))))) (tgName 10)) (dSeq (dExpr (dApp (dVar 6) (dTup (dCons (dAdd (dC (.str "s")) (dUn strT (dVar 2))) (dCons (dVar 8) (dCons (dVar 9) (dCons (dVar 10) (dCons (dAdd (dVar 10) (dCall F__law_next (dCons (dVar 0) (dCons (dC (.int 2)) (dNil))))) (dCons (dFdiv (dCall F__law_next (dCons (dVar 0) (dCons (dC (.int 5)) (dNil)))) (dC (.int 2))) (dCons (dCall F__law_hours (dCons (dVar 0) (dCons (dVar 4) (dNil)))) (dNil))))))))))) (dSkip)))))) (dSeq (dAsg (dUn tupleT (dComp (dRng1 (dVar 7)) (tgName 2) (dYes) (dTup (dCons (dAdd (dC (.str "p")) (dUn strT (dVar 2))) (dCons (dCall F__law_pick (dCons (dVar 0) (dCons (dVar 5) (dNil)))) (dNil)))) [2])) (tgName 3)) (dSeq (dPar 11 12 (dCons (dFdiv (dCall F__law_next (dCons (dVar 0) (dCons (dC (.int 4)) (dNil)))) (dC (.int 3))) (dCons (dFdiv (dCall F__law_next (dCons (dVar 0) (dCons (dC (.int 5)) (dNil)))) (dC (.int 4))) (dNil)))) (dSeq (dRet (dTup (dCons (dVar 5) (dCons (dUn tupleT (dVar 6)) (dCons (dVar 3) (dCons (dTup (dCons (dVar 4) (dCons (dVar 11) (dCons (dVar 12) (dNil))))) (dNil))))))) (dSkip)))))))
theorem ok__law_city [TbC] {g : G} {P : Program} {w : World} {K : PySem.W.Frag} {mg : Str → Option Value} {base : Heap} (T : Top mg) (c__law_next : Cal g P w K mg base 3 "_law_next" ["draw", "bound"] F__law_next) (c__law_pick : Cal g P w K mg base 4 "_law_pick" ["draw", "things"] F__law_pick) (c__law_hours : Cal g P w K mg base 5 "_law_hours" ["draw", "day"] F__law_hours) (D : Dn K mg "_law_city" (top 43) ["draw", "most"]) : Cal g P w K mg base 6 "_law_city" ["draw", "most"] F__law_city :=
  Cal.of D sc__law_city rfl fun cdv A outer s H E f hr => by
    have nd := sc__law_city.nd
    exact ms_cons (ms_asg (m_tup (m_cons (m_add (m_int) (m_callC c__law_next (hr.mono (by decide)) rfl takes_body (m_cons (m_var (pv 0)) (m_cons (m_int) (m_nil))) (len_cons (len_cons (len_nil))))) (m_cons (m_slc (m_tup (m_cons (m_str) (m_cons (m_str) (m_cons (m_str) (m_nil))))) (m_no) (m_part (m_add (m_int) (m_callC c__law_next (hr.mono (by decide)) rfl takes_body (m_cons (m_var (pv 0)) (m_cons (m_int) (m_nil))) (len_cons (len_cons (len_nil))))))) (m_nil)))) (mg_tup rfl (mgs_cons (pg_name (i := 4) nd rfl (Or.inl rfl)) (mgs_cons (pg_name (i := 5) nd rfl (Or.inr rfl)) (mgs_nil) noEx_nil) (noEx_cons noEx_nil)))) (ms_cons (m_par (i := 6) (j := 7) rfl nd rfl rfl (by decide) rfl rfl (m_cons (m_lstN (m_nil)) (m_cons (m_add (m_int) (m_if (m_tcmp or_gt (m_callC c__law_next (hr.mono (by decide)) rfl takes_body (m_cons (m_var (pv 0)) (m_cons (m_int) (m_nil))) (len_cons (len_cons (len_nil)))) (m_int) (nomark _)) (m_int) (m_callC c__law_next (hr.mono (by decide)) rfl takes_body (m_cons (m_var (pv 0)) (m_cons (m_var (pv 1)) (m_nil))) (len_cons (len_cons (len_nil)))))) (m_nil))) (by rfl) (by rfl)) (ms_cons (ms_for passes_body rfl (m_rng1 (by rfl) T.n_range (m_if (m_tcmp or_gt (m_var (pv 7)) (m_int) (nomark _)) (m_int) (m_add (m_int) (m_callC c__law_next (hr.mono (by decide)) rfl takes_body (m_cons (m_var (pv 0)) (m_cons (m_int) (m_nil))) (len_cons (len_cons (len_nil))))))) (mg_name (pg_name (i := 2) nd rfl (Or.inl rfl))) (ms_cons (ms_set (i := 8) nd rfl (Or.inr rfl) (m_callC c__law_pick (hr.mono (by decide)) rfl takes_body (m_cons (m_var (pv 0)) (m_cons (m_var (pv 5)) (m_nil))) (len_cons (len_cons (len_nil))))) (ms_cons (ms_set (i := 9) nd rfl (Or.inl rfl) (m_callC c__law_pick (hr.mono (by decide)) rfl takes_body (m_cons (m_var (pv 0)) (m_cons (m_lc rfl nd (m_iter (m_var (pv 5))) (blkOk_by (own := [("junction", 13)]) (by rfl)) (fun _ _ _ _ _ => pg_name (i := 13) nd rfl (Or.inl rfl)) (tok_name (by decide)) (fun _ _ _ _ _ => mts_one (m_tcmp (or_ne (hu64 hr)) (m_var (pv 13)) (m_var (pv 8)) (nomark _))) (fun _ _ _ _ _ => m_var (pv 13))) (m_nil))) (len_cons (len_cons (len_nil))))) (ms_cons (ms_set (i := 10) nd rfl (Or.inl rfl) (m_add (m_int) (m_fdiv (m_callC c__law_next (hr.mono (by decide)) rfl takes_body (m_cons (m_var (pv 0)) (m_cons (m_int) (m_nil))) (len_cons (len_cons (len_nil)))) (m_add (m_int) (m_callC c__law_next (hr.mono (by decide)) rfl takes_body (m_cons (m_var (pv 0)) (m_cons (m_int) (m_nil))) (len_cons (len_cons (len_nil)))))))) (ms_cons (ms_expr (m_app (m_var (pv 6)) (m_tup (m_cons (m_add (m_str) (m_t1 c_str rfl T.n_str b_str (m_var (pv 2)))) (m_cons (m_var (pv 8)) (m_cons (m_var (pv 9)) (m_cons (m_var (pv 10)) (m_cons (m_add (m_var (pv 10)) (m_callC c__law_next (hr.mono (by decide)) rfl takes_body (m_cons (m_var (pv 0)) (m_cons (m_int) (m_nil))) (len_cons (len_cons (len_nil))))) (m_cons (m_fdiv (m_callC c__law_next (hr.mono (by decide)) rfl takes_body (m_cons (m_var (pv 0)) (m_cons (m_int) (m_nil))) (len_cons (len_cons (len_nil)))) (m_int)) (m_cons (m_callC c__law_hours (hr.mono (by decide)) rfl takes_body (m_cons (m_var (pv 0)) (m_cons (m_var (pv 4)) (m_nil))) (len_cons (len_cons (len_nil)))) (m_nil))))))))))) (ms_nil)))))) (ms_cons (ms_set (i := 3) nd rfl (Or.inl rfl) (m_t1 c_tuple rfl T.n_tuple b_tuple (m_lc rfl nd (m_rng1 (by rfl) T.n_range (m_var (pv 7))) (blkOk_by (own := [("number", 2)]) (by rfl)) (fun _ _ _ _ _ => pg_name (i := 2) nd rfl (Or.inl rfl)) (tok_name (by decide)) (fun _ _ _ _ _ => mts_nil) (fun _ _ _ _ _ => m_tup (m_cons (m_add (m_str) (m_t1 c_str rfl T.n_str b_str (m_var (pv 2)))) (m_cons (m_callC c__law_pick (hr.mono (by decide)) rfl takes0 (m_cons (m_var (pv 0)) (m_cons (m_var (pv 5)) (m_nil))) (len_cons (len_cons (len_nil)))) (m_nil))))))) (ms_cons (m_par (i := 11) (j := 12) rfl nd rfl rfl (by decide) rfl rfl (m_cons (m_fdiv (m_callC c__law_next (hr.mono (by decide)) rfl takes_body (m_cons (m_var (pv 0)) (m_cons (m_int) (m_nil))) (len_cons (len_cons (len_nil)))) (m_int)) (m_cons (m_fdiv (m_callC c__law_next (hr.mono (by decide)) rfl takes_body (m_cons (m_var (pv 0)) (m_cons (m_int) (m_nil))) (len_cons (len_cons (len_nil)))) (m_int)) (m_nil))) (by rfl) (by rfl)) (ms_cons (ms_ret (m_tup (m_cons (m_var (pv 5)) (m_cons (m_t1 c_tuple rfl T.n_tuple b_tuple (m_var (pv 6))) (m_cons (m_var (pv 3)) (m_cons (m_tup (m_cons (m_var (pv 4)) (m_cons (m_var (pv 11)) (m_cons (m_var (pv 12)) (m_nil))))) (m_nil))))))) (ms_nil))))))
theorem sc__law_bent_city : FnScope (["draw", "city", "kind", "junctions", "streets", "ploughs", "rules", "late", "is_right"] : List Str) ["draw", "city"] (defScope (top 47)) := ⟨rfl, rfl, rfl, by decide +kernel, rfl, by decide +kernel, by decide +kernel⟩
noncomputable def F__law_bent_city : List SV → Cs → R SV := runF 9 (dSeq (dAsg (dVar 1) (tgTup 4 (tgCons 3 (tgCons 4 (tgCons 5 (tgCons 6 (tgNil))))))) (dSeq (dAsg (dCall F__law_next (dCons (dVar 0) (dCons (dC (.int 4)) (dNil)))) (tgName 2)) (dSeq (dIfS (dTest (dBin (op2 ltT) (dVar 2) (dC (.int 2)))) (dSeq (dAsg (dCall F__law_bent_street (dCons (dVar 0) (dCons (dIdx (dVar 4) (dC (.int 0))) (dCons (dIdx (dVar 6) (dC (.int 0))) (dNil))))) (tgTup 2 (tgCons 7 (tgCons 8 (tgNil))))) (dSeq (dRet (dTup (dCons (dTup (dCons (dVar 3) (dCons (dAdd (dTup (dCons (dVar 7) (dNil))) (dSlc (dVar 4) (dPart (dC (.int 1))) (dNo))) (dCons (dVar 5) (dCons (dVar 6) (dNil)))))) (dCons (dVar 8) (dNil))))) (dSkip))) (dSkip)) (dSeq (dRet (dCall F__law_pick (dCons (dVar 0) (dCons (dLst (dCons (dTup (dCons (dTup (dCons (dVar 3) (dCons (dVar 4) (dCons (dVar 5) (dCons (dCall F__law_put (dCons (dVar 6) (dCons (dC (.int 0)) (dCons (dC (.int 0)) (dNil))))) (dNil)))))) (dCons (dC (.bool false)) (dNil)))) (dCons (dTup (dCons (dTup (dCons (dVar 3) (dCons (dTup (dNil)) (dCons (dVar 5) (dCons (dCall F__law_put (dCons (dVar 6) (dCons (dC (.int 0)) (dCons (dC (.int 60)) (dNil))))) (dNil)))))) (dCons (dC (.bool true)) (dNil)))) (dCons (dTup (dCons (dTup (dCons (dVar 3) (dCons (dVar 4) (dCons (dVar 5) (dCons (dCall F__law_put (dCons (dVar 6) (dCons (dC (.int 1)) (dCons (dC (.int 6)) (dNil))))) (dNil)))))) (dCons (dC (.bool false)) (dNil)))) (dCons (dTup (dCons (dTup (dCons (dVar 3) (dCons (dVar 4) (dCons (dVar 5) (dCons (dCall F__law_put (dCons (dVar 6) (dCons (dC (.int 1)) (dCons (dC (.int 5)) (dNil))))) (dNil)))))) (dCons (dC (.bool true)) (dNil)))) (dCons (dTup (dCons (dTup (dCons (dVar 3) (dCons (dVar 4) (dCons (dVar 5) (dCons (dCall F__law_put (dCons (dVar 6) (dCons (dC (.int 2)) (dCons (dAdd (dUn lenT (dVar 5)) (dC (.int 1))) (dNil))))) (dNil)))))) (dCons (dC (.bool false)) (dNil)))) (dCons (dTup (dCons (dTup (dCons (dVar 3) (dCons (dVar 4) (dCons (dVar 5) (dCons (dCall F__law_put (dCons (dVar 6) (dCons (dC (.int 2)) (dCons (dUn lenT (dVar 5)) (dNil))))) (dNil)))))) (dCons (dC (.bool true)) (dNil)))) (dCons (dTup (dCons (dTup (dCons (dVar 3) (dCons (dVar 4) (dCons (dTup (dNil)) (dCons (dVar 6) (dNil)))))) (dCons (dC (.bool false)) (dNil)))) (dCons (dTup (dCons (dTup (dCons (dVar 3) (dCons (dVar 4) (dCons (dAdd (dVar 5) (dTup (dCons (dTup (dCons (dC (.str "p9")) (dCons (dC (.str "zz")) (dNil)))) (dNil)))) (dCons (dVar 6) (dNil)))))) (dCons (dC (.bool false)) (dNil)))) (dCons (dTup (dCons (dTup (dCons (dVar 3) (dCons (dVar 4) (dCons (dAdd (dVar 5) (dSlc (dVar 5) (dNo) (dPart (dC (.int 1))))) (dCons (dVar 6) (dNil)))))) (dCons (dC (.bool false)) (dNil)))) (dCons (dTup (dCons (dTup (dCons (dVar 3) (dCons (dVar 4) (dCons (dTup (dCons (dTup (dCons (dC (.str "s0")) (dCons (dIdx (dVar 3) (dC (.int 0))) (dNil)))) (dNil))) (dCons (dTup (dCons (dIdx (dVar 6) (dC (.int 0))) (dCons (dC (.int 0)) (dCons (dC (.int 0)) (dNil))))) (dNil)))))) (dCons (dC (.bool false)) (dNil)))) (dCons (dTup (dCons (dTup (dCons (dAdd (dVar 3) (dSlc (dVar 3) (dNo) (dPart (dC (.int 1))))) (dCons (dVar 4) (dCons (dVar 5) (dCons (dVar 6) (dNil)))))) (dCons (dC (.bool false)) (dNil)))) (dCons (dTup (dCons (dTup (dCons (dUn listT (dVar 3)) (dCons (dVar 4) (dCons (dVar 5) (dCons (dVar 6) (dNil)))))) (dCons (dC (.bool false)) (dNil)))) (dCons (dTup (dCons (dTup (dCons (dVar 3) (dCons (dVar 4) (dCons (dVar 5) (dNil))))) (dCons (dC (.bool false)) (dNil)))) (dCons (dTup (dCons (dTup (dCons (dVar 3) (dCons (dVar 4) (dCons (dVar 5) (dCons (dSlc (dVar 6) (dNo) (dPart (dC (.int 2)))) (dNil)))))) (dCons (dC (.bool false)) (dNil)))) (dCons (dTup (dCons (dC .none) (dCons (dC (.bool false)) (dNil)))) (dCons (dTup (dCons (dTup (dCons (dVar 3) (dCons (dAdd (dVar 4) (dSlc (dVar 4) (dNo) (dPart (dC (.int 1))))) (dCons (dVar 5) (dCons (dVar 6) (dNil)))))) (dCons (dC (.bool false)) (dNil)))) (dCons (dTup (dCons (dTup (dCons (dTup (dCons (dC (.str "a")) (dNil))) (dCons (dTup (dNil)) (dCons (dTup (dCons (dTup (dCons (dC (.str "p0")) (dCons (dC (.str "a")) (dNil)))) (dNil))) (dCons (dAdd (dSlc (dVar 6) (dNo) (dPart (dC (.int 2)))) (dTup (dCons (dC (.int 0)) (dNil)))) (dNil)))))) (dCons (dC (.bool true)) (dNil)))) (dCons (dTup (dCons (dTup (dCons (dVar 3) (dCons (dVar 4) (dCons (dTup (dCons (dTup (dCons (dC (.str "p0")) (dCons (dIdx (dVar 3) (dC (.int 0))) (dNil)))) (dCons (dTup (dCons (dC (.str "p1")) (dCons (dIdx (dVar 3) (dC (.int 0))) (dNil)))) (dCons (dTup (dCons (dC (.str "p2")) (dCons (dIdx (dVar 3) (dC (.int 0))) (dNil)))) (dCons (dTup (dCons (dC (.str "p3")) (dCons (dIdx (dVar 3) (dC (.int 0))) (dNil)))) (dNil)))))) (dCons (dVar 6) (dNil)))))) (dCons (dC (.bool true)) (dNil)))) (dNil)))))))))))))))))))) (dNil))))) (dSkip)))))
theorem ok__law_bent_city [TbC] {g : G} {P : Program} {w : World} {K : PySem.W.Frag} {mg : Str → Option Value} {base : Heap} (T : Top mg) (c__law_pick : Cal g P w K mg base 4 "_law_pick" ["draw", "things"] F__law_pick) (c__law_put : Cal g P w K mg base 1 "_law_put" ["row", "at", "thing"] F__law_put) (c__law_bent_street : Cal g P w K mg base 5 "_law_bent_street" ["draw", "street", "day"] F__law_bent_street) (c__law_next : Cal g P w K mg base 3 "_law_next" ["draw", "bound"] F__law_next) (D : Dn K mg "_law_bent_city" (top 47) ["draw", "city"]) : Cal g P w K mg base 6 "_law_bent_city" ["draw", "city"] F__law_bent_city :=
  Cal.of D sc__law_bent_city rfl fun cdv A outer s H E f hr => by
    have nd := sc__law_bent_city.nd
    exact ms_cons (ms_asg (m_var (pv 1)) (mg_tup rfl (mgs_cons (pg_name (i := 3) nd rfl (Or.inl rfl)) (mgs_cons (pg_name (i := 4) nd rfl (Or.inl rfl)) (mgs_cons (pg_name (i := 5) nd rfl (Or.inl rfl)) (mgs_cons (pg_name (i := 6) nd rfl (Or.inl rfl)) (mgs_nil) noEx_nil) (noEx_cons noEx_nil)) (noEx_cons (noEx_cons noEx_nil))) (noEx_cons (noEx_cons (noEx_cons noEx_nil)))))) (ms_cons (ms_set (i := 2) nd rfl (Or.inl rfl) (m_callC c__law_next (hr.mono (by decide)) rfl takes_body (m_cons (m_var (pv 0)) (m_cons (m_int) (m_nil))) (len_cons (len_cons (len_nil))))) (ms_cons (ms_if (m_tcmp or_lt (m_var (pv 2)) (m_int) (nomark _)) (ms_cons (ms_asg (m_callC c__law_bent_street (hr.mono (by decide)) rfl takes_body (m_cons (m_var (pv 0)) (m_cons (m_idx (m_var (pv 4)) (m_int) (fun _ _ => rfl)) (m_cons (m_idx (m_var (pv 6)) (m_int) (fun _ _ => rfl)) (m_nil)))) (len_cons (len_cons (len_cons (len_nil))))) (mg_tup rfl (mgs_cons (pg_name (i := 7) nd rfl (Or.inl rfl)) (mgs_cons (pg_name (i := 8) nd rfl (Or.inl rfl)) (mgs_nil) noEx_nil) (noEx_cons noEx_nil)))) (ms_cons (ms_ret (m_tup (m_cons (m_tup (m_cons (m_var (pv 3)) (m_cons (m_add (m_tup (m_cons (m_var (pv 7)) (m_nil))) (m_slc (m_var (pv 4)) (m_part (m_int)) (m_no))) (m_cons (m_var (pv 5)) (m_cons (m_var (pv 6)) (m_nil)))))) (m_cons (m_var (pv 8)) (m_nil))))) (ms_nil))) (ms_nil)) (ms_cons (ms_ret (m_callC c__law_pick (hr.mono (by decide)) rfl takes_body (m_cons (m_var (pv 0)) (m_cons (m_lst (m_cons (m_tup (m_cons (m_tup (m_cons (m_var (pv 3)) (m_cons (m_var (pv 4)) (m_cons (m_var (pv 5)) (m_cons (m_callC c__law_put (hr.mono (by decide)) rfl takes_body (m_cons (m_var (pv 6)) (m_cons (m_int) (m_cons (m_int) (m_nil)))) (len_cons (len_cons (len_cons (len_nil))))) (m_nil)))))) (m_cons (m_bl) (m_nil)))) (m_cons (m_tup (m_cons (m_tup (m_cons (m_var (pv 3)) (m_cons (m_tup (m_nil)) (m_cons (m_var (pv 5)) (m_cons (m_callC c__law_put (hr.mono (by decide)) rfl takes_body (m_cons (m_var (pv 6)) (m_cons (m_int) (m_cons (m_int) (m_nil)))) (len_cons (len_cons (len_cons (len_nil))))) (m_nil)))))) (m_cons (m_bl) (m_nil)))) (m_cons (m_tup (m_cons (m_tup (m_cons (m_var (pv 3)) (m_cons (m_var (pv 4)) (m_cons (m_var (pv 5)) (m_cons (m_callC c__law_put (hr.mono (by decide)) rfl takes_body (m_cons (m_var (pv 6)) (m_cons (m_int) (m_cons (m_int) (m_nil)))) (len_cons (len_cons (len_cons (len_nil))))) (m_nil)))))) (m_cons (m_bl) (m_nil)))) (m_cons (m_tup (m_cons (m_tup (m_cons (m_var (pv 3)) (m_cons (m_var (pv 4)) (m_cons (m_var (pv 5)) (m_cons (m_callC c__law_put (hr.mono (by decide)) rfl takes_body (m_cons (m_var (pv 6)) (m_cons (m_int) (m_cons (m_int) (m_nil)))) (len_cons (len_cons (len_cons (len_nil))))) (m_nil)))))) (m_cons (m_bl) (m_nil)))) (m_cons (m_tup (m_cons (m_tup (m_cons (m_var (pv 3)) (m_cons (m_var (pv 4)) (m_cons (m_var (pv 5)) (m_cons (m_callC c__law_put (hr.mono (by decide)) rfl takes_body (m_cons (m_var (pv 6)) (m_cons (m_int) (m_cons (m_add (m_b1 c_len rfl T.n_len b_len (m_var (pv 5))) (m_int)) (m_nil)))) (len_cons (len_cons (len_cons (len_nil))))) (m_nil)))))) (m_cons (m_bl) (m_nil)))) (m_cons (m_tup (m_cons (m_tup (m_cons (m_var (pv 3)) (m_cons (m_var (pv 4)) (m_cons (m_var (pv 5)) (m_cons (m_callC c__law_put (hr.mono (by decide)) rfl takes_body (m_cons (m_var (pv 6)) (m_cons (m_int) (m_cons (m_b1 c_len rfl T.n_len b_len (m_var (pv 5))) (m_nil)))) (len_cons (len_cons (len_cons (len_nil))))) (m_nil)))))) (m_cons (m_bl) (m_nil)))) (m_cons (m_tup (m_cons (m_tup (m_cons (m_var (pv 3)) (m_cons (m_var (pv 4)) (m_cons (m_tup (m_nil)) (m_cons (m_var (pv 6)) (m_nil)))))) (m_cons (m_bl) (m_nil)))) (m_cons (m_tup (m_cons (m_tup (m_cons (m_var (pv 3)) (m_cons (m_var (pv 4)) (m_cons (m_add (m_var (pv 5)) (m_tup (m_cons (m_tup (m_cons (m_str) (m_cons (m_str) (m_nil)))) (m_nil)))) (m_cons (m_var (pv 6)) (m_nil)))))) (m_cons (m_bl) (m_nil)))) (m_cons (m_tup (m_cons (m_tup (m_cons (m_var (pv 3)) (m_cons (m_var (pv 4)) (m_cons (m_add (m_var (pv 5)) (m_slc (m_var (pv 5)) (m_no) (m_part (m_int)))) (m_cons (m_var (pv 6)) (m_nil)))))) (m_cons (m_bl) (m_nil)))) (m_cons (m_tup (m_cons (m_tup (m_cons (m_var (pv 3)) (m_cons (m_var (pv 4)) (m_cons (m_tup (m_cons (m_tup (m_cons (m_str) (m_cons (m_idx (m_var (pv 3)) (m_int) (fun _ _ => rfl)) (m_nil)))) (m_nil))) (m_cons (m_tup (m_cons (m_idx (m_var (pv 6)) (m_int) (fun _ _ => rfl)) (m_cons (m_int) (m_cons (m_int) (m_nil))))) (m_nil)))))) (m_cons (m_bl) (m_nil)))) (m_cons (m_tup (m_cons (m_tup (m_cons (m_add (m_var (pv 3)) (m_slc (m_var (pv 3)) (m_no) (m_part (m_int)))) (m_cons (m_var (pv 4)) (m_cons (m_var (pv 5)) (m_cons (m_var (pv 6)) (m_nil)))))) (m_cons (m_bl) (m_nil)))) (m_cons (m_tup (m_cons (m_tup (m_cons (m_t1 c_list rfl T.n_list b_list (m_var (pv 3))) (m_cons (m_var (pv 4)) (m_cons (m_var (pv 5)) (m_cons (m_var (pv 6)) (m_nil)))))) (m_cons (m_bl) (m_nil)))) (m_cons (m_tup (m_cons (m_tup (m_cons (m_var (pv 3)) (m_cons (m_var (pv 4)) (m_cons (m_var (pv 5)) (m_nil))))) (m_cons (m_bl) (m_nil)))) (m_cons (m_tup (m_cons (m_tup (m_cons (m_var (pv 3)) (m_cons (m_var (pv 4)) (m_cons (m_var (pv 5)) (m_cons (m_slc (m_var (pv 6)) (m_no) (m_part (m_int))) (m_nil)))))) (m_cons (m_bl) (m_nil)))) (m_cons (m_tup (m_cons (m_non) (m_cons (m_bl) (m_nil)))) (m_cons (m_tup (m_cons (m_tup (m_cons (m_var (pv 3)) (m_cons (m_add (m_var (pv 4)) (m_slc (m_var (pv 4)) (m_no) (m_part (m_int)))) (m_cons (m_var (pv 5)) (m_cons (m_var (pv 6)) (m_nil)))))) (m_cons (m_bl) (m_nil)))) (m_cons (m_tup (m_cons (m_tup (m_cons (m_tup (m_cons (m_str) (m_nil))) (m_cons (m_tup (m_nil)) (m_cons (m_tup (m_cons (m_tup (m_cons (m_str) (m_cons (m_str) (m_nil)))) (m_nil))) (m_cons (m_add (m_slc (m_var (pv 6)) (m_no) (m_part (m_int))) (m_tup (m_cons (m_int) (m_nil)))) (m_nil)))))) (m_cons (m_bl) (m_nil)))) (m_cons (m_tup (m_cons (m_tup (m_cons (m_var (pv 3)) (m_cons (m_var (pv 4)) (m_cons (m_tup (m_cons (m_tup (m_cons (m_str) (m_cons (m_idx (m_var (pv 3)) (m_int) (fun _ _ => rfl)) (m_nil)))) (m_cons (m_tup (m_cons (m_str) (m_cons (m_idx (m_var (pv 3)) (m_int) (fun _ _ => rfl)) (m_nil)))) (m_cons (m_tup (m_cons (m_str) (m_cons (m_idx (m_var (pv 3)) (m_int) (fun _ _ => rfl)) (m_nil)))) (m_cons (m_tup (m_cons (m_str) (m_cons (m_idx (m_var (pv 3)) (m_int) (fun _ _ => rfl)) (m_nil)))) (m_nil)))))) (m_cons (m_var (pv 6)) (m_nil)))))) (m_cons (m_bl) (m_nil)))) (m_nil)))))))))))))))))))) (m_nil))) (len_cons (len_cons (len_nil))))) (ms_nil))))
theorem sc_law : FnScope (["script", "draw", "city", "sky", "turn", "other", "is_right", "late"] : List Str) ["script"] (defScope (top 50)) := ⟨rfl, rfl, rfl, by decide +kernel, rfl, by decide +kernel, by decide +kernel⟩
theorem sc__law_raised : FnScope (["work"] : List Str) ["work"] (defScope (top 49)) := ⟨rfl, rfl, rfl, by decide +kernel, rfl, by decide +kernel, by decide +kernel⟩
noncomputable def B_law : DS := dSeq (dAsg (dCall F__law_city (dCons (dVar 1) (dCons (dC (.int 3)) (dNil)))) (tgName 2)) (dSeq (dAsg (dCall F__law_sky (dCons (dVar 1) (dCons (dVar 2) (dNil)))) (tgName 3)) (dSeq (dIfS (dOrB (dNotB (dTest (dCall F_is_city (dCons (dVar 2) (dNil))))) (dNotB (dTest (dCall F_is_sky (dCons (dVar 2) (dCons (dVar 3) (dNil))))))) (dSeq (dRet (dC (.bool false))) (dSkip)) (dSkip)) (dSeq (dFor (dRng1 (dC (.int 8))) (tgName 4) (dSeq (dAsg (dCall F__law_bent_city (dCons (dVar 1) (dCons (dVar 2) (dNil)))) (tgTup 2 (tgCons 7 (tgCons 6 (tgNil))))) (dSeq (dIfS (dOrB (dTest (dBin (op2 neO) (dCall F_is_city (dCons (dVar 7) (dNil))) (dVar 6))) (dTest (dBin (op2 neO) (dRaised 2 "city" "sky" "none" (dCall F_check_city (dCons (dVar 7) (dNil)))) (dIf (dTest (dVar 6)) (dC (.str "none")) (dC (.str "city")))))) (dSeq (dRet (dC (.bool false))) (dSkip)) (dSkip)) (dSkip)))) (dSeq (dAsg (dCall F__law_bent_sky (dCons (dVar 1) (dCons (dVar 2) (dCons (dVar 3) (dNil))))) (tgTup 2 (tgCons 5 (tgCons 6 (tgNil))))) (dSeq (dRet (dAndV (dBin (op2 eqO) (dCall F_is_sky (dCons (dVar 2) (dCons (dVar 5) (dNil)))) (dVar 6)) (dBin (op2 eqO) (dRaised 2 "city" "sky" "none" (dCall F_check_sky (dCons (dVar 2) (dCons (dVar 5) (dNil))))) (dIf (dTest (dVar 6)) (dC (.str "none")) (dC (.str "sky")))))) (dSkip))))))
theorem ok_law [TbC] {g : G} {P : Program} {w : World} {K : PySem.W.Frag} {mg : Str → Option Value} {base : Heap} (T : Top mg) (X0 : Exs g P w K mg base) (c_is_sky : Cal g P w K mg base 5 "is_sky" ["city", "thing"] F_is_sky) (c_check_sky : Cal g P w K mg base 4 "check_sky" ["city", "thing"] F_check_sky) (c__law_bent_sky : Cal g P w K mg base 5 "_law_bent_sky" ["draw", "city", "sky"] F__law_bent_sky) (c_is_city : Cal g P w K mg base 6 "is_city" ["thing"] F_is_city) (c_check_city : Cal g P w K mg base 5 "check_city" ["thing"] F_check_city) (c__law_bent_city : Cal g P w K mg base 6 "_law_bent_city" ["draw", "city"] F__law_bent_city) (c__law_sky : Cal g P w K mg base 5 "_law_sky" ["draw", "city"] F__law_sky) (c__law_city : Cal g P w K mg base 6 "_law_city" ["draw", "most"] F__law_city) (z__law_raised : Rz K mg "_law_raised" (top 49) "work") {f c Pt : Addr} {oc kV doc pm ct : Value} {od an : Option Addr} {osl : Array (Option Value)} (lk : K.lookup f = some ⟨oc, od, .func (PySem.W.fnOf "law" "law" (defArgs (top 50)) (defBody (top 50)) (defScope (top 50)) .none kV doc pm an (.ref c) ct), osl⟩) (hcd : PySem.W.codeIn K (.ref c) "law" = true) (TB : TabB base mg c Pt) (htb : TbC.tb = some (Pt, (("law" : Str) ++ ".<locals>.") ++ "<lambda>")) :
    FnOk P w K mg base (L2.CX P w) 8 f (PySem.W.fnOf "law" "law" (defArgs (top 50)) (defBody (top 50)) (defScope (top 50)) .none kV doc pm an (.ref c) ct) ["script"] (spLawM K 6 B_law) :=
  law_ofC lk hcd sc_law rfl rfl rfl fun A outer s H E hr => by
    have nd := sc_law.nd
    exact ms_cons (ms_set (i := 2) nd rfl (Or.inr rfl) (m_callC c__law_city (hr.mono (by decide)) rfl takes_body (m_cons (m_var (pv 1)) (m_cons (m_int) (m_nil))) (len_cons (len_cons (len_nil))))) (ms_cons (ms_set (i := 3) nd rfl (Or.inl rfl) (m_callC c__law_sky (hr.mono (by decide)) rfl takes_body (m_cons (m_var (pv 1)) (m_cons (m_var (pv 2)) (m_nil))) (len_cons (len_cons (len_nil))))) (ms_cons (ms_if (m_tw (m_wor (m_tnot (m_tval (m_callC c_is_city (hr.mono (by decide)) rfl takes_body (m_cons (m_var (pv 2)) (m_nil)) (len_cons (len_nil))))) (m_wor1 (m_tnot (m_tval (m_callC c_is_sky (hr.mono (by decide)) rfl takes_body (m_cons (m_var (pv 2)) (m_cons (m_var (pv 3)) (m_nil))) (len_cons (len_cons (len_nil))))))))) (ms_cons (ms_ret (m_bl)) (ms_nil)) (ms_nil)) (ms_cons (ms_for passes_body rfl (m_rng1 (by rfl) T.n_range (m_int)) (mg_name (pg_name (i := 4) nd rfl (Or.inl rfl))) (ms_cons (ms_asg (m_callC c__law_bent_city (hr.mono (by decide)) rfl takes_body (m_cons (m_var (pv 1)) (m_cons (m_var (pv 2)) (m_nil))) (len_cons (len_cons (len_nil)))) (mg_tup rfl (mgs_cons (pg_name (i := 7) nd rfl (Or.inr rfl)) (mgs_cons (pg_name (i := 6) nd rfl (Or.inl rfl)) (mgs_nil) noEx_nil) (noEx_cons noEx_nil)))) (ms_cons (ms_if (m_tw (m_wor (m_tcmp (or_ne (hu64 hr)) (m_callC c_is_city (hr.mono (by decide)) rfl takes_body (m_cons (m_var (pv 7)) (m_nil)) (len_cons (len_nil))) (m_var (pv 6)) (nomark _)) (m_wor1 (m_tcmp (or_ne (hu64 hr)) (m_raised (k := 5) (st := top 49) z__law_raised rfl sc__law_raised (Or.inl rfl) rfl X0.m_BadCity.at_ (by decide) rfl X0.m_BadSky.at_ (by decide) X0.x_BadCity X0.x_BadSky rfl TB rfl htb (hr.mono (by decide)) (lamS_by (sc := defScope (top 50)) (by decide +kernel)) rfl (fun _ _ _ _ _ => rfl) (fun A outer s H E f c' hr => m_callC c_check_city (hr.mono (by decide)) rfl takes_lam (m_cons (m_var (pv 7)) (m_nil)) (len_cons (len_nil)))) (m_if (m_tval (m_var (pv 6))) (m_str) (m_str)) (nomark _))))) (ms_cons (ms_ret (m_bl)) (ms_nil)) (ms_nil)) (ms_nil)))) (ms_cons (ms_asg (m_callC c__law_bent_sky (hr.mono (by decide)) rfl takes_body (m_cons (m_var (pv 1)) (m_cons (m_var (pv 2)) (m_cons (m_var (pv 3)) (m_nil)))) (len_cons (len_cons (len_cons (len_nil))))) (mg_tup rfl (mgs_cons (pg_name (i := 5) nd rfl (Or.inr rfl)) (mgs_cons (pg_name (i := 6) nd rfl (Or.inl rfl)) (mgs_nil) noEx_nil) (noEx_cons noEx_nil)))) (ms_cons (ms_ret (m_vand (m_cmp (or_eq (hu64 hr)) (m_callC c_is_sky (hr.mono (by decide)) rfl takes_body (m_cons (m_var (pv 2)) (m_cons (m_var (pv 5)) (m_nil))) (len_cons (len_cons (len_nil)))) (m_var (pv 6)) (nomark _)) (m_v1 (m_cmp (or_eq (hu64 hr)) (m_raised (k := 4) (st := top 49) z__law_raised rfl sc__law_raised (Or.inl rfl) rfl X0.m_BadCity.at_ (by decide) rfl X0.m_BadSky.at_ (by decide) X0.x_BadCity X0.x_BadSky rfl TB rfl htb (hr.mono (by decide)) (lamS_by (sc := defScope (top 50)) (by decide +kernel)) rfl (fun _ _ _ _ _ => rfl) (fun A outer s H E f c' hr => m_callC c_check_sky (hr.mono (by decide)) rfl takes_lam (m_cons (m_var (pv 2)) (m_cons (m_var (pv 5)) (m_nil))) (len_cons (len_cons (len_nil))))) (m_if (m_tval (m_var (pv 6))) (m_str) (m_str)) (nomark _))))) (ms_nil))))))
end Mi
set_option Elab.async false
set_option linter.all false
set_option autoImplicit false
set_option maxRecDepth 100000
set_option maxHeartbeats 4000000
namespace Mi
open PySem PySem.Spec PyProof.Rows L2 LamX
theorem all_mk {l : PySem.W.OpenLaw} {w : World} {K : PySem.W.Frag} {h : Heap} {mg : Str → Option Value} {C0 : Addr} {C1 : Addr} {t_GREATEST_LATE : Tok} {t_GREATEST_LIMIT : Tok} {t_LETTERS : Tok} {t_LETTERS_AND_FIGURES : Tok} {t_LONGEST_DAY : Tok} {t_LONGEST_NAME : Tok} {t_LONGEST_PASS : Tok} {t_LONGEST_WORK : Tok} {t_MOST_ARCS : Tok} {t_MOST_JUNCTIONS : Tok} {t_MOST_PLOUGHS : Tok} {t_MOST_SPANS : Tok} {t_MOST_STATES : Tok} {t_MOST_STREETS : Tok} {f_is_integer : Addr} {oc_is_integer kV_is_integer dc_is_integer pm_is_integer cd_is_integer ct_is_integer : Value} {od_is_integer an_is_integer : Option Addr} {sl_is_integer : Array (Option Value)} {f_is_row : Addr} {oc_is_row kV_is_row dc_is_row pm_is_row cd_is_row ct_is_row : Value} {od_is_row an_is_row : Option Addr} {sl_is_row : Array (Option Value)} {f_is_name : Addr} {oc_is_name kV_is_name dc_is_name pm_is_name cd_is_name ct_is_name : Value} {od_is_name an_is_name : Option Addr} {sl_is_name : Array (Option Value)} {f_is_known : Addr} {oc_is_known kV_is_known dc_is_known pm_is_known cd_is_known ct_is_known : Value} {od_is_known an_is_known : Option Addr} {sl_is_known : Array (Option Value)} {f_are_unlike : Addr} {oc_are_unlike kV_are_unlike dc_are_unlike pm_are_unlike cd_are_unlike ct_are_unlike : Value} {od_are_unlike an_are_unlike : Option Addr} {sl_are_unlike : Array (Option Value)} {f__law_cell_at : Addr} {oc__law_cell_at kV__law_cell_at dc__law_cell_at pm__law_cell_at cd__law_cell_at ct__law_cell_at : Value} {od__law_cell_at an__law_cell_at : Option Addr} {sl__law_cell_at : Array (Option Value)} {f__law_draw : Addr} {oc__law_draw kV__law_draw dc__law_draw pm__law_draw cd__law_draw ct__law_draw : Value} {od__law_draw an__law_draw : Option Addr} {sl__law_draw : Array (Option Value)} {f__law_put : Addr} {oc__law_put kV__law_put dc__law_put pm__law_put cd__law_put ct__law_put : Value} {od__law_put an__law_put : Option Addr} {sl__law_put : Array (Option Value)} {f_is_within : Addr} {oc_is_within kV_is_within dc_is_within pm_is_within cd_is_within ct_is_within : Value} {od_is_within an_is_within : Option Addr} {sl_is_within : Array (Option Value)} {f__law_number : Addr} {oc__law_number kV__law_number dc__law_number pm__law_number cd__law_number ct__law_number : Value} {od__law_number an__law_number : Option Addr} {sl__law_number : Array (Option Value)} {f_check_junctions : Addr} {oc_check_junctions kV_check_junctions dc_check_junctions pm_check_junctions cd_check_junctions ct_check_junctions : Value} {od_check_junctions an_check_junctions : Option Addr} {sl_check_junctions : Array (Option Value)} {f_check_ploughs : Addr} {oc_check_ploughs kV_check_ploughs dc_check_ploughs pm_check_ploughs cd_check_ploughs ct_check_ploughs : Value} {od_check_ploughs an_check_ploughs : Option Addr} {sl_check_ploughs : Array (Option Value)} {f_check_rules : Addr} {oc_check_rules kV_check_rules dc_check_rules pm_check_rules cd_check_rules ct_check_rules : Value} {od_check_rules an_check_rules : Option Addr} {sl_check_rules : Array (Option Value)} {f_check_hours : Addr} {oc_check_hours kV_check_hours dc_check_hours pm_check_hours cd_check_hours ct_check_hours : Value} {od_check_hours an_check_hours : Option Addr} {sl_check_hours : Array (Option Value)} {f_check_arcs : Addr} {oc_check_arcs kV_check_arcs dc_check_arcs pm_check_arcs cd_check_arcs ct_check_arcs : Value} {od_check_arcs an_check_arcs : Option Addr} {sl_check_arcs : Array (Option Value)} {f__law_next : Addr} {oc__law_next kV__law_next dc__law_next pm__law_next cd__law_next ct__law_next : Value} {od__law_next an__law_next : Option Addr} {sl__law_next : Array (Option Value)} {f_check_street : Addr} {oc_check_street kV_check_street dc_check_street pm_check_street cd_check_street ct_check_street : Value} {od_check_street an_check_street : Option Addr} {sl_check_street : Array (Option Value)} {f_check_sky : Addr} {oc_check_sky kV_check_sky dc_check_sky pm_check_sky cd_check_sky ct_check_sky : Value} {od_check_sky an_check_sky : Option Addr} {sl_check_sky : Array (Option Value)} {f__law_pick : Addr} {oc__law_pick kV__law_pick dc__law_pick pm__law_pick cd__law_pick ct__law_pick : Value} {od__law_pick an__law_pick : Option Addr} {sl__law_pick : Array (Option Value)} {f_check_city : Addr} {oc_check_city kV_check_city dc_check_city pm_check_city cd_check_city ct_check_city : Value} {od_check_city an_check_city : Option Addr} {sl_check_city : Array (Option Value)} {f_is_sky : Addr} {oc_is_sky kV_is_sky dc_is_sky pm_is_sky cd_is_sky ct_is_sky : Value} {od_is_sky an_is_sky : Option Addr} {sl_is_sky : Array (Option Value)} {f__law_hours : Addr} {oc__law_hours kV__law_hours dc__law_hours pm__law_hours cd__law_hours ct__law_hours : Value} {od__law_hours an__law_hours : Option Addr} {sl__law_hours : Array (Option Value)} {f__law_sky : Addr} {oc__law_sky kV__law_sky dc__law_sky pm__law_sky cd__law_sky ct__law_sky : Value} {od__law_sky an__law_sky : Option Addr} {sl__law_sky : Array (Option Value)} {f__law_bent_street : Addr} {oc__law_bent_street kV__law_bent_street dc__law_bent_street pm__law_bent_street cd__law_bent_street ct__law_bent_street : Value} {od__law_bent_street an__law_bent_street : Option Addr} {sl__law_bent_street : Array (Option Value)} {f__law_bent_sky : Addr} {oc__law_bent_sky kV__law_bent_sky dc__law_bent_sky pm__law_bent_sky cd__law_bent_sky ct__law_bent_sky : Value} {od__law_bent_sky an__law_bent_sky : Option Addr} {sl__law_bent_sky : Array (Option Value)} {f_is_city : Addr} {oc_is_city kV_is_city dc_is_city pm_is_city cd_is_city ct_is_city : Value} {od_is_city an_is_city : Option Addr} {sl_is_city : Array (Option Value)} {f__law_city : Addr} {oc__law_city kV__law_city dc__law_city pm__law_city cd__law_city ct__law_city : Value} {od__law_city an__law_city : Option Addr} {sl__law_city : Array (Option Value)} {f__law_bent_city : Addr} {oc__law_bent_city kV__law_bent_city dc__law_bent_city pm__law_bent_city cd__law_bent_city ct__law_bent_city : Value} {od__law_bent_city an__law_bent_city : Option Addr} {sl__law_bent_city : Array (Option Value)} {f_law : Addr} {oc_law kV_law dc_law pm_law cd_law ct_law : Value} {od_law an_law : Option Addr} {sl_law : Array (Option Value)} {fX0 : Addr} {ocX0 kVX0 dcX0 pmX0 cdX0 ctX0 : Value} {odX0 anX0 : Option Addr} {slX0 : Array (Option Value)} {fX1 : Addr} {ocX1 kVX1 dcX1 pmX1 cdX1 ctX1 : Value} {odX1 anX1 : Option Addr} {slX1 : Array (Option Value)} {f__law_raised : Addr} {oc__law_raised kV__law_raised dc__law_raised pm__law_raised cd__law_raised ct__law_raised : Value} {od__law_raised an__law_raised : Option Addr} {sl__law_raised : Array (Option Value)} {cq Pq : Addr} {eq : Value} {dq : Option Addr} {vq : Array Value} {sq : Array (Option Value)} (X : K.In h) (G : h.Ns mainGlobals mg)
    (z_all : PySem.W.nsIn K mainGlobals "all" = some none)
    (z_bool : PySem.W.nsIn K mainGlobals "bool" = some none)
    (z_int : PySem.W.nsIn K mainGlobals "int" = some none)
    (z_isinstance : PySem.W.nsIn K mainGlobals "isinstance" = some none)
    (z_len : PySem.W.nsIn K mainGlobals "len" = some none)
    (z_list : PySem.W.nsIn K mainGlobals "list" = some none)
    (z_range : PySem.W.nsIn K mainGlobals "range" = some none)
    (z_set : PySem.W.nsIn K mainGlobals "set" = some none)
    (z_str : PySem.W.nsIn K mainGlobals "str" = some none)
    (z_tuple : PySem.W.nsIn K mainGlobals "tuple" = some none)
    (v_GREATEST_LATE : PySem.W.nsIn K mainGlobals "GREATEST_LATE" = some (some (.int 5 t_GREATEST_LATE)))
    (v_GREATEST_LIMIT : PySem.W.nsIn K mainGlobals "GREATEST_LIMIT" = some (some (.int 9 t_GREATEST_LIMIT)))
    (v_LETTERS : PySem.W.nsIn K mainGlobals "LETTERS" = some (some (.str "abcdefghijklmnopqrstuvwxyz" t_LETTERS)))
    (v_LETTERS_AND_FIGURES : PySem.W.nsIn K mainGlobals "LETTERS_AND_FIGURES" = some (some (.str "abcdefghijklmnopqrstuvwxyz0123456789" t_LETTERS_AND_FIGURES)))
    (v_LONGEST_DAY : PySem.W.nsIn K mainGlobals "LONGEST_DAY" = some (some (.int 60 t_LONGEST_DAY)))
    (v_LONGEST_NAME : PySem.W.nsIn K mainGlobals "LONGEST_NAME" = some (some (.int 8 t_LONGEST_NAME)))
    (v_LONGEST_PASS : PySem.W.nsIn K mainGlobals "LONGEST_PASS" = some (some (.int 9 t_LONGEST_PASS)))
    (v_LONGEST_WORK : PySem.W.nsIn K mainGlobals "LONGEST_WORK" = some (some (.int 20 t_LONGEST_WORK)))
    (v_MOST_ARCS : PySem.W.nsIn K mainGlobals "MOST_ARCS" = some (some (.int 12 t_MOST_ARCS)))
    (v_MOST_JUNCTIONS : PySem.W.nsIn K mainGlobals "MOST_JUNCTIONS" = some (some (.int 12 t_MOST_JUNCTIONS)))
    (v_MOST_PLOUGHS : PySem.W.nsIn K mainGlobals "MOST_PLOUGHS" = some (some (.int 4 t_MOST_PLOUGHS)))
    (v_MOST_SPANS : PySem.W.nsIn K mainGlobals "MOST_SPANS" = some (some (.int 6 t_MOST_SPANS)))
    (v_MOST_STATES : PySem.W.nsIn K mainGlobals "MOST_STATES" = some (some (.int 30 t_MOST_STATES)))
    (v_MOST_STREETS : PySem.W.nsIn K mainGlobals "MOST_STREETS" = some (some (.int 20 t_MOST_STREETS)))
    (a_is_integer : PySem.W.nsIn K mainGlobals "is_integer" = some (some (.ref f_is_integer)))
    (l_is_integer : K.lookup f_is_integer = some ⟨oc_is_integer, od_is_integer, .func (PySem.W.fnOf "is_integer" "is_integer" (defArgs (top 8)) (defBody (top 8)) (defScope (top 8)) .none kV_is_integer dc_is_integer pm_is_integer an_is_integer cd_is_integer ct_is_integer), sl_is_integer⟩) (c_is_integer : PySem.W.codeIn K cd_is_integer "is_integer" = true) (k_is_integer : PySem.W.keepIn K (.ref f_is_integer) = true)
    (a_is_row : PySem.W.nsIn K mainGlobals "is_row" = some (some (.ref f_is_row)))
    (l_is_row : K.lookup f_is_row = some ⟨oc_is_row, od_is_row, .func (PySem.W.fnOf "is_row" "is_row" (defArgs (top 10)) (defBody (top 10)) (defScope (top 10)) .none kV_is_row dc_is_row pm_is_row an_is_row cd_is_row ct_is_row), sl_is_row⟩) (c_is_row : PySem.W.codeIn K cd_is_row "is_row" = true) (k_is_row : PySem.W.keepIn K (.ref f_is_row) = true)
    (a_is_name : PySem.W.nsIn K mainGlobals "is_name" = some (some (.ref f_is_name)))
    (l_is_name : K.lookup f_is_name = some ⟨oc_is_name, od_is_name, .func (PySem.W.fnOf "is_name" "is_name" (defArgs (top 11)) (defBody (top 11)) (defScope (top 11)) .none kV_is_name dc_is_name pm_is_name an_is_name cd_is_name ct_is_name), sl_is_name⟩) (c_is_name : PySem.W.codeIn K cd_is_name "is_name" = true) (k_is_name : PySem.W.keepIn K (.ref f_is_name) = true)
    (a_is_known : PySem.W.nsIn K mainGlobals "is_known" = some (some (.ref f_is_known)))
    (l_is_known : K.lookup f_is_known = some ⟨oc_is_known, od_is_known, .func (PySem.W.fnOf "is_known" "is_known" (defArgs (top 12)) (defBody (top 12)) (defScope (top 12)) .none kV_is_known dc_is_known pm_is_known an_is_known cd_is_known ct_is_known), sl_is_known⟩) (c_is_known : PySem.W.codeIn K cd_is_known "is_known" = true) (k_is_known : PySem.W.keepIn K (.ref f_is_known) = true)
    (a_are_unlike : PySem.W.nsIn K mainGlobals "are_unlike" = some (some (.ref f_are_unlike)))
    (l_are_unlike : K.lookup f_are_unlike = some ⟨oc_are_unlike, od_are_unlike, .func (PySem.W.fnOf "are_unlike" "are_unlike" (defArgs (top 13)) (defBody (top 13)) (defScope (top 13)) .none kV_are_unlike dc_are_unlike pm_are_unlike an_are_unlike cd_are_unlike ct_are_unlike), sl_are_unlike⟩) (c_are_unlike : PySem.W.codeIn K cd_are_unlike "are_unlike" = true) (k_are_unlike : PySem.W.keepIn K (.ref f_are_unlike) = true)
    (a__law_cell_at : PySem.W.nsIn K mainGlobals "_law_cell_at" = some (some (.ref f__law_cell_at)))
    (l__law_cell_at : K.lookup f__law_cell_at = some ⟨oc__law_cell_at, od__law_cell_at, .func (PySem.W.fnOf "_law_cell_at" "_law_cell_at" (defArgs (top 37)) (defBody (top 37)) (defScope (top 37)) .none kV__law_cell_at dc__law_cell_at pm__law_cell_at an__law_cell_at cd__law_cell_at ct__law_cell_at), sl__law_cell_at⟩) (c__law_cell_at : PySem.W.codeIn K cd__law_cell_at "_law_cell_at" = true) (k__law_cell_at : PySem.W.keepIn K (.ref f__law_cell_at) = true)
    (a__law_draw : PySem.W.nsIn K mainGlobals "_law_draw" = some (some (.ref f__law_draw)))
    (l__law_draw : K.lookup f__law_draw = some ⟨oc__law_draw, od__law_draw, .func (PySem.W.fnOf "_law_draw" "_law_draw" (defArgs (top 38)) (defBody (top 38)) (defScope (top 38)) .none kV__law_draw dc__law_draw pm__law_draw an__law_draw cd__law_draw ct__law_draw), sl__law_draw⟩) (c__law_draw : PySem.W.codeIn K cd__law_draw "_law_draw" = true) (k__law_draw : PySem.W.keepIn K (.ref f__law_draw) = true)
    (a__law_put : PySem.W.nsIn K mainGlobals "_law_put" = some (some (.ref f__law_put)))
    (l__law_put : K.lookup f__law_put = some ⟨oc__law_put, od__law_put, .func (PySem.W.fnOf "_law_put" "_law_put" (defArgs (top 45)) (defBody (top 45)) (defScope (top 45)) .none kV__law_put dc__law_put pm__law_put an__law_put cd__law_put ct__law_put), sl__law_put⟩) (c__law_put : PySem.W.codeIn K cd__law_put "_law_put" = true) (k__law_put : PySem.W.keepIn K (.ref f__law_put) = true)
    (a_is_within : PySem.W.nsIn K mainGlobals "is_within" = some (some (.ref f_is_within)))
    (l_is_within : K.lookup f_is_within = some ⟨oc_is_within, od_is_within, .func (PySem.W.fnOf "is_within" "is_within" (defArgs (top 9)) (defBody (top 9)) (defScope (top 9)) .none kV_is_within dc_is_within pm_is_within an_is_within cd_is_within ct_is_within), sl_is_within⟩) (c_is_within : PySem.W.codeIn K cd_is_within "is_within" = true) (k_is_within : PySem.W.keepIn K (.ref f_is_within) = true)
    (a__law_number : PySem.W.nsIn K mainGlobals "_law_number" = some (some (.ref f__law_number)))
    (l__law_number : K.lookup f__law_number = some ⟨oc__law_number, od__law_number, .func (PySem.W.fnOf "_law_number" "_law_number" (defArgs (top 39)) (defBody (top 39)) (defScope (top 39)) .none kV__law_number dc__law_number pm__law_number an__law_number cd__law_number ct__law_number), sl__law_number⟩) (c__law_number : PySem.W.codeIn K cd__law_number "_law_number" = true) (k__law_number : PySem.W.keepIn K (.ref f__law_number) = true)
    (a_check_junctions : PySem.W.nsIn K mainGlobals "check_junctions" = some (some (.ref f_check_junctions)))
    (l_check_junctions : K.lookup f_check_junctions = some ⟨oc_check_junctions, od_check_junctions, .func (PySem.W.fnOf "check_junctions" "check_junctions" (defArgs (top 27)) (defBody (top 27)) (defScope (top 27)) .none kV_check_junctions dc_check_junctions pm_check_junctions an_check_junctions cd_check_junctions ct_check_junctions), sl_check_junctions⟩) (c_check_junctions : PySem.W.codeIn K cd_check_junctions "check_junctions" = true) (k_check_junctions : PySem.W.keepIn K (.ref f_check_junctions) = true)
    (a_check_ploughs : PySem.W.nsIn K mainGlobals "check_ploughs" = some (some (.ref f_check_ploughs)))
    (l_check_ploughs : K.lookup f_check_ploughs = some ⟨oc_check_ploughs, od_check_ploughs, .func (PySem.W.fnOf "check_ploughs" "check_ploughs" (defArgs (top 28)) (defBody (top 28)) (defScope (top 28)) .none kV_check_ploughs dc_check_ploughs pm_check_ploughs an_check_ploughs cd_check_ploughs ct_check_ploughs), sl_check_ploughs⟩) (c_check_ploughs : PySem.W.codeIn K cd_check_ploughs "check_ploughs" = true) (k_check_ploughs : PySem.W.keepIn K (.ref f_check_ploughs) = true)
    (a_check_rules : PySem.W.nsIn K mainGlobals "check_rules" = some (some (.ref f_check_rules)))
    (l_check_rules : K.lookup f_check_rules = some ⟨oc_check_rules, od_check_rules, .func (PySem.W.fnOf "check_rules" "check_rules" (defArgs (top 29)) (defBody (top 29)) (defScope (top 29)) .none kV_check_rules dc_check_rules pm_check_rules an_check_rules cd_check_rules ct_check_rules), sl_check_rules⟩) (c_check_rules : PySem.W.codeIn K cd_check_rules "check_rules" = true) (k_check_rules : PySem.W.keepIn K (.ref f_check_rules) = true)
    (a_check_hours : PySem.W.nsIn K mainGlobals "check_hours" = some (some (.ref f_check_hours)))
    (l_check_hours : K.lookup f_check_hours = some ⟨oc_check_hours, od_check_hours, .func (PySem.W.fnOf "check_hours" "check_hours" (defArgs (top 31)) (defBody (top 31)) (defScope (top 31)) .none kV_check_hours dc_check_hours pm_check_hours an_check_hours cd_check_hours ct_check_hours), sl_check_hours⟩) (c_check_hours : PySem.W.codeIn K cd_check_hours "check_hours" = true) (k_check_hours : PySem.W.keepIn K (.ref f_check_hours) = true)
    (a_check_arcs : PySem.W.nsIn K mainGlobals "check_arcs" = some (some (.ref f_check_arcs)))
    (l_check_arcs : K.lookup f_check_arcs = some ⟨oc_check_arcs, od_check_arcs, .func (PySem.W.fnOf "check_arcs" "check_arcs" (defArgs (top 34)) (defBody (top 34)) (defScope (top 34)) .none kV_check_arcs dc_check_arcs pm_check_arcs an_check_arcs cd_check_arcs ct_check_arcs), sl_check_arcs⟩) (c_check_arcs : PySem.W.codeIn K cd_check_arcs "check_arcs" = true) (k_check_arcs : PySem.W.keepIn K (.ref f_check_arcs) = true)
    (a__law_next : PySem.W.nsIn K mainGlobals "_law_next" = some (some (.ref f__law_next)))
    (l__law_next : K.lookup f__law_next = some ⟨oc__law_next, od__law_next, .func (PySem.W.fnOf "_law_next" "_law_next" (defArgs (top 40)) (defBody (top 40)) (defScope (top 40)) .none kV__law_next dc__law_next pm__law_next an__law_next cd__law_next ct__law_next), sl__law_next⟩) (c__law_next : PySem.W.codeIn K cd__law_next "_law_next" = true) (k__law_next : PySem.W.keepIn K (.ref f__law_next) = true)
    (a_check_street : PySem.W.nsIn K mainGlobals "check_street" = some (some (.ref f_check_street)))
    (l_check_street : K.lookup f_check_street = some ⟨oc_check_street, od_check_street, .func (PySem.W.fnOf "check_street" "check_street" (defArgs (top 30)) (defBody (top 30)) (defScope (top 30)) .none kV_check_street dc_check_street pm_check_street an_check_street cd_check_street ct_check_street), sl_check_street⟩) (c_check_street : PySem.W.codeIn K cd_check_street "check_street" = true) (k_check_street : PySem.W.keepIn K (.ref f_check_street) = true)
    (a_check_sky : PySem.W.nsIn K mainGlobals "check_sky" = some (some (.ref f_check_sky)))
    (l_check_sky : K.lookup f_check_sky = some ⟨oc_check_sky, od_check_sky, .func (PySem.W.fnOf "check_sky" "check_sky" (defArgs (top 33)) (defBody (top 33)) (defScope (top 33)) .none kV_check_sky dc_check_sky pm_check_sky an_check_sky cd_check_sky ct_check_sky), sl_check_sky⟩) (c_check_sky : PySem.W.codeIn K cd_check_sky "check_sky" = true) (k_check_sky : PySem.W.keepIn K (.ref f_check_sky) = true)
    (a__law_pick : PySem.W.nsIn K mainGlobals "_law_pick" = some (some (.ref f__law_pick)))
    (l__law_pick : K.lookup f__law_pick = some ⟨oc__law_pick, od__law_pick, .func (PySem.W.fnOf "_law_pick" "_law_pick" (defArgs (top 41)) (defBody (top 41)) (defScope (top 41)) .none kV__law_pick dc__law_pick pm__law_pick an__law_pick cd__law_pick ct__law_pick), sl__law_pick⟩) (c__law_pick : PySem.W.codeIn K cd__law_pick "_law_pick" = true) (k__law_pick : PySem.W.keepIn K (.ref f__law_pick) = true)
    (a_check_city : PySem.W.nsIn K mainGlobals "check_city" = some (some (.ref f_check_city)))
    (l_check_city : K.lookup f_check_city = some ⟨oc_check_city, od_check_city, .func (PySem.W.fnOf "check_city" "check_city" (defArgs (top 26)) (defBody (top 26)) (defScope (top 26)) .none kV_check_city dc_check_city pm_check_city an_check_city cd_check_city ct_check_city), sl_check_city⟩) (c_check_city : PySem.W.codeIn K cd_check_city "check_city" = true) (k_check_city : PySem.W.keepIn K (.ref f_check_city) = true)
    (a_is_sky : PySem.W.nsIn K mainGlobals "is_sky" = some (some (.ref f_is_sky)))
    (l_is_sky : K.lookup f_is_sky = some ⟨oc_is_sky, od_is_sky, .func (PySem.W.fnOf "is_sky" "is_sky" (defArgs (top 35)) (defBody (top 35)) (defScope (top 35)) .none kV_is_sky dc_is_sky pm_is_sky an_is_sky cd_is_sky ct_is_sky), sl_is_sky⟩) (c_is_sky : PySem.W.codeIn K cd_is_sky "is_sky" = true) (k_is_sky : PySem.W.keepIn K (.ref f_is_sky) = true)
    (a__law_hours : PySem.W.nsIn K mainGlobals "_law_hours" = some (some (.ref f__law_hours)))
    (l__law_hours : K.lookup f__law_hours = some ⟨oc__law_hours, od__law_hours, .func (PySem.W.fnOf "_law_hours" "_law_hours" (defArgs (top 42)) (defBody (top 42)) (defScope (top 42)) .none kV__law_hours dc__law_hours pm__law_hours an__law_hours cd__law_hours ct__law_hours), sl__law_hours⟩) (c__law_hours : PySem.W.codeIn K cd__law_hours "_law_hours" = true) (k__law_hours : PySem.W.keepIn K (.ref f__law_hours) = true)
    (a__law_sky : PySem.W.nsIn K mainGlobals "_law_sky" = some (some (.ref f__law_sky)))
    (l__law_sky : K.lookup f__law_sky = some ⟨oc__law_sky, od__law_sky, .func (PySem.W.fnOf "_law_sky" "_law_sky" (defArgs (top 44)) (defBody (top 44)) (defScope (top 44)) .none kV__law_sky dc__law_sky pm__law_sky an__law_sky cd__law_sky ct__law_sky), sl__law_sky⟩) (c__law_sky : PySem.W.codeIn K cd__law_sky "_law_sky" = true) (k__law_sky : PySem.W.keepIn K (.ref f__law_sky) = true)
    (a__law_bent_street : PySem.W.nsIn K mainGlobals "_law_bent_street" = some (some (.ref f__law_bent_street)))
    (l__law_bent_street : K.lookup f__law_bent_street = some ⟨oc__law_bent_street, od__law_bent_street, .func (PySem.W.fnOf "_law_bent_street" "_law_bent_street" (defArgs (top 46)) (defBody (top 46)) (defScope (top 46)) .none kV__law_bent_street dc__law_bent_street pm__law_bent_street an__law_bent_street cd__law_bent_street ct__law_bent_street), sl__law_bent_street⟩) (c__law_bent_street : PySem.W.codeIn K cd__law_bent_street "_law_bent_street" = true) (k__law_bent_street : PySem.W.keepIn K (.ref f__law_bent_street) = true)
    (a__law_bent_sky : PySem.W.nsIn K mainGlobals "_law_bent_sky" = some (some (.ref f__law_bent_sky)))
    (l__law_bent_sky : K.lookup f__law_bent_sky = some ⟨oc__law_bent_sky, od__law_bent_sky, .func (PySem.W.fnOf "_law_bent_sky" "_law_bent_sky" (defArgs (top 48)) (defBody (top 48)) (defScope (top 48)) .none kV__law_bent_sky dc__law_bent_sky pm__law_bent_sky an__law_bent_sky cd__law_bent_sky ct__law_bent_sky), sl__law_bent_sky⟩) (c__law_bent_sky : PySem.W.codeIn K cd__law_bent_sky "_law_bent_sky" = true) (k__law_bent_sky : PySem.W.keepIn K (.ref f__law_bent_sky) = true)
    (a_is_city : PySem.W.nsIn K mainGlobals "is_city" = some (some (.ref f_is_city)))
    (l_is_city : K.lookup f_is_city = some ⟨oc_is_city, od_is_city, .func (PySem.W.fnOf "is_city" "is_city" (defArgs (top 32)) (defBody (top 32)) (defScope (top 32)) .none kV_is_city dc_is_city pm_is_city an_is_city cd_is_city ct_is_city), sl_is_city⟩) (c_is_city : PySem.W.codeIn K cd_is_city "is_city" = true) (k_is_city : PySem.W.keepIn K (.ref f_is_city) = true)
    (a__law_city : PySem.W.nsIn K mainGlobals "_law_city" = some (some (.ref f__law_city)))
    (l__law_city : K.lookup f__law_city = some ⟨oc__law_city, od__law_city, .func (PySem.W.fnOf "_law_city" "_law_city" (defArgs (top 43)) (defBody (top 43)) (defScope (top 43)) .none kV__law_city dc__law_city pm__law_city an__law_city cd__law_city ct__law_city), sl__law_city⟩) (c__law_city : PySem.W.codeIn K cd__law_city "_law_city" = true) (k__law_city : PySem.W.keepIn K (.ref f__law_city) = true)
    (a__law_bent_city : PySem.W.nsIn K mainGlobals "_law_bent_city" = some (some (.ref f__law_bent_city)))
    (l__law_bent_city : K.lookup f__law_bent_city = some ⟨oc__law_bent_city, od__law_bent_city, .func (PySem.W.fnOf "_law_bent_city" "_law_bent_city" (defArgs (top 47)) (defBody (top 47)) (defScope (top 47)) .none kV__law_bent_city dc__law_bent_city pm__law_bent_city an__law_bent_city cd__law_bent_city ct__law_bent_city), sl__law_bent_city⟩) (c__law_bent_city : PySem.W.codeIn K cd__law_bent_city "_law_bent_city" = true) (k__law_bent_city : PySem.W.keepIn K (.ref f__law_bent_city) = true)
    (a_law : PySem.W.nsIn K mainGlobals "law" = some (some (.ref f_law)))
    (l_law : K.lookup f_law = some ⟨oc_law, od_law, .func (PySem.W.fnOf "law" "law" (defArgs (top 50)) (defBody (top 50)) (defScope (top 50)) .none kV_law dc_law pm_law an_law cd_law ct_law), sl_law⟩) (c_law : PySem.W.codeIn K cd_law "law" = true) (k_law : PySem.W.keepIn K (.ref f_law) = true)
    (g0 : PySem.W.nsIn K mainGlobals "BadCity" = some (some (.ref C0)))
    (e0_0 : PySem.W.excInitIn K C0 exTl "Exception.__new__" = true)
    (e0_1 : PySem.W.excOver K C0 exTl = true)
    (e0_2 : PySem.W.hasDictIn K C0 = true)
    (e0_3 : PySem.W.findIn K (.ref C0) "__setattr__" = some (some (.builtin "object.__setattr__")))
    (e0_4 : PySem.W.subIn K (.ref C0) (.type "BaseException") = some true)
    (e0_5 : PySem.W.typeIn K (.ref C0) = some (.type "type"))
    (e0_6 : PySem.W.keepIn K (.ref C0) = true)
    (e0_7 : PySem.W.findIn K (.ref C0) "__getattribute__" = some (some (.builtin "BaseException.__getattribute__")))
    (e0_8 : PySem.W.findIn K (.ref C0) "__getattr__" = some none)
    (i0 : PySem.W.findIn K (.ref C0) "__init__" = some (some (.ref fX0))) (t0 : PySem.W.typeIn K (.ref fX0) = some (.type "function"))
    (lX0 : K.lookup fX0 = some ⟨ocX0, odX0, .func (PySem.W.fnOf "__init__" "BadCity.__init__" (defArgs (inClass (top 2) 0)) (defBody (inClass (top 2) 0)) (defScope (inClass (top 2) 0)) .none kVX0 dcX0 pmX0 anX0 cdX0 ctX0), slX0⟩) (cX0 : PySem.W.codeIn K cdX0 "BadCity.__init__" = true) (kX0 : PySem.W.keepIn K (.ref fX0) = true)
    (n0_0 : PySem.W.findIn K (.ref C0) "name" = some none)
    (n0_1 : PySem.W.findIn K (.ref C0) "why" = some none)
    (x0_0 : PySem.W.subIn K (.ref C0) (.ref C0) = some true)
    (x0_1 : PySem.W.subIn K (.ref C1) (.ref C0) = some false)
    (g1 : PySem.W.nsIn K mainGlobals "BadSky" = some (some (.ref C1)))
    (e1_0 : PySem.W.excInitIn K C1 exTl "Exception.__new__" = true)
    (e1_1 : PySem.W.excOver K C1 exTl = true)
    (e1_2 : PySem.W.hasDictIn K C1 = true)
    (e1_3 : PySem.W.findIn K (.ref C1) "__setattr__" = some (some (.builtin "object.__setattr__")))
    (e1_4 : PySem.W.subIn K (.ref C1) (.type "BaseException") = some true)
    (e1_5 : PySem.W.typeIn K (.ref C1) = some (.type "type"))
    (e1_6 : PySem.W.keepIn K (.ref C1) = true)
    (e1_7 : PySem.W.findIn K (.ref C1) "__getattribute__" = some (some (.builtin "BaseException.__getattribute__")))
    (e1_8 : PySem.W.findIn K (.ref C1) "__getattr__" = some none)
    (i1 : PySem.W.findIn K (.ref C1) "__init__" = some (some (.ref fX1))) (t1 : PySem.W.typeIn K (.ref fX1) = some (.type "function"))
    (lX1 : K.lookup fX1 = some ⟨ocX1, odX1, .func (PySem.W.fnOf "__init__" "BadSky.__init__" (defArgs (inClass (top 3) 0)) (defBody (inClass (top 3) 0)) (defScope (inClass (top 3) 0)) .none kVX1 dcX1 pmX1 anX1 cdX1 ctX1), slX1⟩) (cX1 : PySem.W.codeIn K cdX1 "BadSky.__init__" = true) (kX1 : PySem.W.keepIn K (.ref fX1) = true)
    (n1_0 : PySem.W.findIn K (.ref C1) "name" = some none)
    (n1_1 : PySem.W.findIn K (.ref C1) "why" = some none)
    (x1_0 : PySem.W.subIn K (.ref C0) (.ref C1) = some false)
    (x1_1 : PySem.W.subIn K (.ref C1) (.ref C1) = some true)
    (a__law_raised : PySem.W.nsIn K mainGlobals "_law_raised" = some (some (.ref f__law_raised)))
    (l__law_raised : K.lookup f__law_raised = some ⟨oc__law_raised, od__law_raised, .func (PySem.W.fnOf "_law_raised" "_law_raised" (defArgs (top 49)) (defBody (top 49)) (defScope (top 49)) .none kV__law_raised dc__law_raised pm__law_raised an__law_raised cd__law_raised ct__law_raised), sl__law_raised⟩) (c__law_raised : PySem.W.codeIn K cd__law_raised "_law_raised" = true) (k__law_raised : PySem.W.keepIn K (.ref f__law_raised) = true)
    (zq : cd_law = .ref cq) (lq : K.lookup cq = some ⟨eq, dq, .fields vq, sq⟩) (vp : vq[11]? = some (.ref Pq)) (np : K.lookup Pq = none) (hp : PySem.W.codeHdIn K cq Pq = true)
    : LawTab l w K mg 8 6 B_law := by
  letI : TbC := ⟨some (Pq, (("law" : Str) ++ ".<locals>.") ++ "<lambda>")⟩
  have T : Top mg := ⟨PySem.W.mg_none_of X G z_all, PySem.W.mg_none_of X G z_bool, PySem.W.mg_none_of X G z_int, PySem.W.mg_none_of X G z_isinstance, PySem.W.mg_none_of X G z_len, PySem.W.mg_none_of X G z_list, PySem.W.mg_none_of X G z_range, PySem.W.mg_none_of X G z_set, PySem.W.mg_none_of X G z_str, PySem.W.mg_none_of X G z_tuple, const_of X G v_GREATEST_LATE ⟨_, rfl⟩, const_of X G v_GREATEST_LIMIT ⟨_, rfl⟩, const_of X G v_LETTERS ⟨_, rfl⟩, const_of X G v_LETTERS_AND_FIGURES ⟨_, rfl⟩, const_of X G v_LONGEST_DAY ⟨_, rfl⟩, const_of X G v_LONGEST_NAME ⟨_, rfl⟩, const_of X G v_LONGEST_PASS ⟨_, rfl⟩, const_of X G v_LONGEST_WORK ⟨_, rfl⟩, const_of X G v_MOST_ARCS ⟨_, rfl⟩, const_of X G v_MOST_JUNCTIONS ⟨_, rfl⟩, const_of X G v_MOST_PLOUGHS ⟨_, rfl⟩, const_of X G v_MOST_SPANS ⟨_, rfl⟩, const_of X G v_MOST_STATES ⟨_, rfl⟩, const_of X G v_MOST_STREETS ⟨_, rfl⟩⟩
  have d_is_integer := dn_of (st := top 8) (ps := ["thing"]) X G a_is_integer l_is_integer c_is_integer k_is_integer (fun _ _ _ _ _ _ us hl => match us, hl with | [_], _ => rfl)
  have d_is_row := dn_of (st := top 10) (ps := ["thing", "least", "greatest"]) X G a_is_row l_is_row c_is_row k_is_row (fun _ _ _ _ _ _ us hl => match us, hl with | [_, _, _], _ => rfl)
  have d_is_name := dn_of (st := top 11) (ps := ["thing"]) X G a_is_name l_is_name c_is_name k_is_name (fun _ _ _ _ _ _ us hl => match us, hl with | [_], _ => rfl)
  have d_is_known := dn_of (st := top 12) (ps := ["thing", "names"]) X G a_is_known l_is_known c_is_known k_is_known (fun _ _ _ _ _ _ us hl => match us, hl with | [_, _], _ => rfl)
  have d_are_unlike := dn_of (st := top 13) (ps := ["names"]) X G a_are_unlike l_are_unlike c_are_unlike k_are_unlike (fun _ _ _ _ _ _ us hl => match us, hl with | [_], _ => rfl)
  have d__law_cell_at := dn_of (st := top 37) (ps := ["script", "k"]) X G a__law_cell_at l__law_cell_at c__law_cell_at k__law_cell_at (fun _ _ _ _ _ _ us hl => match us, hl with | [_, _], _ => rfl)
  have d__law_draw := dn_of (st := top 38) (ps := ["cell", "k", "bound"]) X G a__law_draw l__law_draw c__law_draw k__law_draw (fun _ _ _ _ _ _ us hl => match us, hl with | [_, _, _], _ => rfl)
  have d__law_put := dn_of (st := top 45) (ps := ["row", "at", "thing"]) X G a__law_put l__law_put c__law_put k__law_put (fun _ _ _ _ _ _ us hl => match us, hl with | [_, _, _], _ => rfl)
  have d_is_within := dn_of (st := top 9) (ps := ["thing", "least", "greatest"]) X G a_is_within l_is_within c_is_within k_is_within (fun _ _ _ _ _ _ us hl => match us, hl with | [_, _, _], _ => rfl)
  have d__law_number := dn_of (st := top 39) (ps := ["cell", "k", "bound"]) X G a__law_number l__law_number c__law_number k__law_number (fun _ _ _ _ _ _ us hl => match us, hl with | [_, _, _], _ => rfl)
  have d_check_junctions := dn_of (st := top 27) (ps := ["junctions"]) X G a_check_junctions l_check_junctions c_check_junctions k_check_junctions (fun _ _ _ _ _ _ us hl => match us, hl with | [_], _ => rfl)
  have d_check_ploughs := dn_of (st := top 28) (ps := ["ploughs", "junctions"]) X G a_check_ploughs l_check_ploughs c_check_ploughs k_check_ploughs (fun _ _ _ _ _ _ us hl => match us, hl with | [_, _], _ => rfl)
  have d_check_rules := dn_of (st := top 29) (ps := ["rules", "many_ploughs"]) X G a_check_rules l_check_rules c_check_rules k_check_rules (fun _ _ _ _ _ _ us hl => match us, hl with | [_, _], _ => rfl)
  have d_check_hours := dn_of (st := top 31) (ps := ["name", "hours", "day"]) X G a_check_hours l_check_hours c_check_hours k_check_hours (fun _ _ _ _ _ _ us hl => match us, hl with | [_, _, _], _ => rfl)
  have d_check_arcs := dn_of (st := top 34) (ps := ["name", "arcs", "states", "streets"]) X G a_check_arcs l_check_arcs c_check_arcs k_check_arcs (fun _ _ _ _ _ _ us hl => match us, hl with | [_, _, _, _], _ => rfl)
  have d__law_next := dn_of (st := top 40) (ps := ["draw", "bound"]) X G a__law_next l__law_next c__law_next k__law_next (fun _ _ _ _ _ _ us hl => match us, hl with | [_, _], _ => rfl)
  have d_check_street := dn_of (st := top 30) (ps := ["street", "junctions", "day"]) X G a_check_street l_check_street c_check_street k_check_street (fun _ _ _ _ _ _ us hl => match us, hl with | [_, _, _], _ => rfl)
  have d_check_sky := dn_of (st := top 33) (ps := ["city", "thing"]) X G a_check_sky l_check_sky c_check_sky k_check_sky (fun _ _ _ _ _ _ us hl => match us, hl with | [_, _], _ => rfl)
  have d__law_pick := dn_of (st := top 41) (ps := ["draw", "things"]) X G a__law_pick l__law_pick c__law_pick k__law_pick (fun _ _ _ _ _ _ us hl => match us, hl with | [_, _], _ => rfl)
  have d_check_city := dn_of (st := top 26) (ps := ["thing"]) X G a_check_city l_check_city c_check_city k_check_city (fun _ _ _ _ _ _ us hl => match us, hl with | [_], _ => rfl)
  have d_is_sky := dn_of (st := top 35) (ps := ["city", "thing"]) X G a_is_sky l_is_sky c_is_sky k_is_sky (fun _ _ _ _ _ _ us hl => match us, hl with | [_, _], _ => rfl)
  have d__law_hours := dn_of (st := top 42) (ps := ["draw", "day"]) X G a__law_hours l__law_hours c__law_hours k__law_hours (fun _ _ _ _ _ _ us hl => match us, hl with | [_, _], _ => rfl)
  have d__law_sky := dn_of (st := top 44) (ps := ["draw", "city"]) X G a__law_sky l__law_sky c__law_sky k__law_sky (fun _ _ _ _ _ _ us hl => match us, hl with | [_, _], _ => rfl)
  have d__law_bent_street := dn_of (st := top 46) (ps := ["draw", "street", "day"]) X G a__law_bent_street l__law_bent_street c__law_bent_street k__law_bent_street (fun _ _ _ _ _ _ us hl => match us, hl with | [_, _, _], _ => rfl)
  have d__law_bent_sky := dn_of (st := top 48) (ps := ["draw", "city", "sky"]) X G a__law_bent_sky l__law_bent_sky c__law_bent_sky k__law_bent_sky (fun _ _ _ _ _ _ us hl => match us, hl with | [_, _, _], _ => rfl)
  have d_is_city := dn_of (st := top 32) (ps := ["thing"]) X G a_is_city l_is_city c_is_city k_is_city (fun _ _ _ _ _ _ us hl => match us, hl with | [_], _ => rfl)
  have d__law_city := dn_of (st := top 43) (ps := ["draw", "most"]) X G a__law_city l__law_city c__law_city k__law_city (fun _ _ _ _ _ _ us hl => match us, hl with | [_, _], _ => rfl)
  have d__law_bent_city := dn_of (st := top 47) (ps := ["draw", "city"]) X G a__law_bent_city l__law_bent_city c__law_bent_city k__law_bent_city (fun _ _ _ _ _ _ us hl => match us, hl with | [_, _], _ => rfl)
  have o0 : OexE K C0 := oexE_of e0_0 e0_1 e0_2 e0_3 e0_4 e0_5 e0_6
  have w0 := ini_of (st := inClass (top 2) 0) (ps := ["self", "name", "why"]) i0 t0 lX0 cX0 kX0 (fun _ _ _ _ _ _ us hl => match us, hl with | [_, _, _], _ => rfl)
  have s0 : FnScope (["self", "name", "why"] : List Str) ["self", "name", "why"] (defScope (inClass (top 2) 0)) := ⟨rfl, rfl, rfl, by decide +kernel, rfl, by decide +kernel, by decide +kernel⟩
  have o1 : OexE K C1 := oexE_of e1_0 e1_1 e1_2 e1_3 e1_4 e1_5 e1_6
  have w1 := ini_of (st := inClass (top 3) 0) (ps := ["self", "name", "why"]) i1 t1 lX1 cX1 kX1 (fun _ _ _ _ _ _ us hl => match us, hl with | [_, _, _], _ => rfl)
  have s1 : FnScope (["self", "name", "why"] : List Str) ["self", "name", "why"] (defScope (inClass (top 3) 0)) := ⟨rfl, rfl, rfl, by decide +kernel, rfl, by decide +kernel, by decide +kernel⟩
  have z__law_raised := rz_of (st := top 49) (y := "work") X G a__law_raised l__law_raised c__law_raised k__law_raised (fun _ _ _ _ _ _ us hl => match us, hl with | [_], _ => rfl)
  subst zq
  refine ⟨f_law, cq, Pq, PySem.W.fnOf "law" "law" (defArgs (top 50)) (defBody (top 50)) (defScope (top 50)) .none kV_law dc_law pm_law an_law (.ref cq) ct_law, _, eq, dq, vq, sq, PySem.W.mg_of X G a_law, fun s u => .of_eq rfl, l_law, rfl, rfl, lq, vp, np, hp, fun base _ _ TB => ?_⟩
  have X0 : Exs (g2 C0 C1) l.prog w K mg base := ⟨mkC2 X G o0 g0 n0_0 n0_1 w0 s0 rfl rfl rfl (by decide) (by decide) (by decide) (by decide) rfl l.prog w base, ⟨e0_7, e0_8, e0_4, e0_2⟩, below2 (PySem.W.exm_ref e0_4 e0_2 e0_5 x0_0) (PySem.W.exm_ref e0_4 e0_2 e0_5 x0_1), mkC2 X G o1 g1 n1_0 n1_1 w1 s1 rfl rfl rfl (by decide) (by decide) (by decide) (by decide) rfl l.prog w base, ⟨e1_7, e1_8, e1_4, e1_2⟩, below2 (PySem.W.exm_ref e1_4 e1_2 e1_5 x1_0) (PySem.W.exm_ref e1_4 e1_2 e1_5 x1_1)⟩
  have q_is_integer := ok_is_integer (g := g2 C0 C1) (P := l.prog) (w := w) (base := base) T  d_is_integer
  have q_is_row := ok_is_row (g := g2 C0 C1) (P := l.prog) (w := w) (base := base) T  d_is_row
  have q_is_name := ok_is_name (g := g2 C0 C1) (P := l.prog) (w := w) (base := base) T  d_is_name
  have q_is_known := ok_is_known (g := g2 C0 C1) (P := l.prog) (w := w) (base := base) T  d_is_known
  have q_are_unlike := ok_are_unlike (g := g2 C0 C1) (P := l.prog) (w := w) (base := base) T  d_are_unlike
  have q__law_cell_at := ok__law_cell_at (g := g2 C0 C1) (P := l.prog) (w := w) (base := base) T  d__law_cell_at
  have q__law_draw := ok__law_draw (g := g2 C0 C1) (P := l.prog) (w := w) (base := base) T  d__law_draw
  have q__law_put := ok__law_put (g := g2 C0 C1) (P := l.prog) (w := w) (base := base) T  d__law_put
  have q_is_within := ok_is_within (g := g2 C0 C1) (P := l.prog) (w := w) (base := base) T q_is_integer d_is_within
  have q__law_number := ok__law_number (g := g2 C0 C1) (P := l.prog) (w := w) (base := base) T q__law_draw d__law_number
  have q_check_junctions := ok_check_junctions (g := g2 C0 C1) (P := l.prog) (w := w) (base := base) T X0 q_are_unlike q_is_name q_is_row d_check_junctions
  have q_check_ploughs := ok_check_ploughs (g := g2 C0 C1) (P := l.prog) (w := w) (base := base) T X0 q_is_known q_is_row q_is_name d_check_ploughs
  have q_check_rules := ok_check_rules (g := g2 C0 C1) (P := l.prog) (w := w) (base := base) T X0 q_is_within q_is_row d_check_rules
  have q_check_hours := ok_check_hours (g := g2 C0 C1) (P := l.prog) (w := w) (base := base) T X0 q_is_within q_is_row d_check_hours
  have q_check_arcs := ok_check_arcs (g := g2 C0 C1) (P := l.prog) (w := w) (base := base) T X0 q_are_unlike q_is_row q_is_known d_check_arcs
  have q__law_next := ok__law_next (g := g2 C0 C1) (P := l.prog) (w := w) (base := base) T q__law_number q__law_cell_at d__law_next
  have q_check_street := ok_check_street (g := g2 C0 C1) (P := l.prog) (w := w) (base := base) T X0 q_check_hours q_is_within q_is_known q_is_row q_is_name d_check_street
  have q_check_sky := ok_check_sky (g := g2 C0 C1) (P := l.prog) (w := w) (base := base) T X0 q_check_arcs q_is_known q_are_unlike q_is_row q_is_name d_check_sky
  have q__law_pick := ok__law_pick (g := g2 C0 C1) (P := l.prog) (w := w) (base := base) T q__law_next d__law_pick
  have q_check_city := ok_check_city (g := g2 C0 C1) (P := l.prog) (w := w) (base := base) T X0 q_are_unlike q_check_street q_is_row q_check_rules q_check_ploughs q_check_junctions d_check_city
  have q_is_sky := ok_is_sky (g := g2 C0 C1) (P := l.prog) (w := w) (base := base) T X0 q_check_sky d_is_sky
  have q__law_hours := ok__law_hours (g := g2 C0 C1) (P := l.prog) (w := w) (base := base) T q__law_pick d__law_hours
  have q__law_sky := ok__law_sky (g := g2 C0 C1) (P := l.prog) (w := w) (base := base) T q__law_next q__law_pick d__law_sky
  have q__law_bent_street := ok__law_bent_street (g := g2 C0 C1) (P := l.prog) (w := w) (base := base) T q__law_pick q__law_put d__law_bent_street
  have q__law_bent_sky := ok__law_bent_sky (g := g2 C0 C1) (P := l.prog) (w := w) (base := base) T q__law_pick d__law_bent_sky
  have q_is_city := ok_is_city (g := g2 C0 C1) (P := l.prog) (w := w) (base := base) T X0 q_check_city d_is_city
  have q__law_city := ok__law_city (g := g2 C0 C1) (P := l.prog) (w := w) (base := base) T q__law_next q__law_pick q__law_hours d__law_city
  have q__law_bent_city := ok__law_bent_city (g := g2 C0 C1) (P := l.prog) (w := w) (base := base) T q__law_pick q__law_put q__law_bent_street q__law_next d__law_bent_city
  exact ok_law (g := g2 C0 C1) T X0 q_is_sky q_check_sky q__law_bent_sky q_is_city q_check_city q__law_bent_city q__law_sky q__law_city z__law_raised l_law c_law TB rfl
end Mi
set_option linter.all false
set_option autoImplicit false
namespace Mi
open PySem
/-! ### the typed side: cities, skies, standings, and what ticks do -/
structure Stt where
  nm : Str
  one : Str
  oth : Str
  go : Int
  wk : Int
  lim : Int
  hrs : List (Int × Int)
structure Cty where
  js : List Str
  ss : List Stt
  ps : List (Str × Str)
  day : Int
  late : Int
  falls : Int
abbrev Arc := Str × List Str
structure Sky where
  first : Str
  sts : List (Str × List Arc)
inductive Pl where
  | at_ (j : Str)
  | on (s j : Str) (w : Bool) (l : Int)
  | down
  deriving DecidableEq
structure Std where
  time : Int
  state : Str
  snow : List Int
  pls : List Pl
  fallen : Int
abbrev Ord := Option (Str × Bool)
abbrev Ans := Nat × List Bool × Option Nat
/-! as data -/
def eH (h : Int × Int) : PyData := .tuple [.int h.1, .int h.2]
def eS (s : Stt) : PyData := .tuple [.str s.nm, .str s.one, .str s.oth, .int s.go, .int s.wk, .int s.lim, .tuple (s.hrs.map eH)]
def eP (p : Str × Str) : PyData := .tuple [.str p.1, .str p.2]
def eC (c : Cty) : PyData := .tuple [.tuple (c.js.map .str), .tuple (c.ss.map eS), .tuple (c.ps.map eP), .tuple [.int c.day, .int c.late, .int c.falls]]
def eA (a : Arc) : PyData := .tuple [.str a.1, .tuple (a.2.map .str)]
def eSt (x : Str × List Arc) : PyData := .tuple [.str x.1, .tuple (x.2.map eA)]
def eK (k : Sky) : PyData := .tuple [.str k.first, .tuple (k.sts.map eSt)]
def ePl : Pl → PyData
  | .at_ j => .tuple [.str "at", .str j]
  | .on s j w l => .tuple [.str "on", .str s, .str j, .bool w, .int l]
  | .down => .tuple [.str "down"]
def eZ (z : Std) : PyData := .tuple [.int z.time, .str z.state, .tuple (z.snow.map .int), .tuple (z.pls.map ePl), .int z.fallen]
def eO : Ord → PyData
  | none => .none
  | some (s, w) => .tuple [.str s, .bool w]
def eOs (os : List Ord) : PyData := .tuple (os.map eO)
def eN : Option Nat → PyData
  | none => .none
  | some n => .int (n : Nat)
def eBs (bs : List Bool) : PyData := .tuple (bs.map .bool)
def eW (a : Ans) : PyData := .tuple [.int (a.1 : Nat), eBs a.2.1, eN a.2.2]
def eWZ (p : Ans × Std) : PyData := .tuple [eW p.1, eZ p.2]
/-! what the program does, typed -/
def Stt.has (s : Stt) (j : Str) : Bool := decide (s.one = j) || decide (s.oth = j)
def Stt.far (s : Stt) (j : Str) : Str := if s.one = j then s.oth else s.one
def Stt.thru (s : Stt) (w : Bool) : Int := if w then s.wk else s.go
def chs (j : Str) (ss : List Stt) : List Ord := none :: ss.flatMap fun s => if s.has j then [some (s.nm, false), some (s.nm, true)] else []
def choices (c : Cty) : Pl → List Ord
  | .at_ j => chs j c.ss
  | _ => [none]
def prod {α : Type} (chs : List (List α)) : List (List α) := chs.foldl (fun rows ch => rows.flatMap fun r => ch.map fun x => r ++ [x]) [[]]
def ordersOf (c : Cty) (z : Std) : List (List Ord) := prod (z.pls.map (choices c))
def streetOf (c : Cty) (n : Str) : Option Stt := c.ss.find? fun s => decide (s.nm = n)
def step : Pl → Pl
  | .on s j w l => .on s j w (l - 1)
  | p => p
def setOut (c : Cty) (p : Pl) : Ord → Pl
  | none => step p
  | some (n, w) => match streetOf c n, p with
    | some s, .at_ j => .on s.nm (s.far j) w (s.thru w - 1)
    | _, _ => p
def gone (c : Cty) (z : Std) (os : List Ord) : List Pl := (z.pls.zip os).map fun p => setOut c p.1 p.2
def comings (c : Cty) : Pl → List Bool
  | .on _ _ _ l => if 0 < l then [false] else if -c.late < l then [false, true] else [true]
  | _ => [false]
def allComings (c : Cty) (ps : List Pl) : List (List Bool) := prod (ps.map (comings c))
def isDown : Pl → Bool
  | .down => true
  | _ => false
def breaks (c : Cty) (z : Std) : List (Option Nat) := none :: if z.fallen < c.falls then ((z.pls.zipIdx.filter fun p => !isDown p.1).map fun p => some p.2) else []
def arcsOf (k : Sky) (n : Str) : List Arc := match k.sts.find? fun x => decide (x.1 = n) with
  | some x => x.2
  | none => []
def come1 : Pl → Bool → Pl
  | .on _ j _ _, true => .at_ j
  | q, _ => q
def clean1 : Pl → Bool → Option Str
  | .on s _ true _, true => some s
  | _, _ => none
def comeIn (ps : List Pl) (cs : List Bool) : List Pl := (ps.zip cs).map fun p => come1 p.1 p.2
def cleanOf (ps : List Pl) (cs : List Bool) : List Str := (ps.zip cs).filterMap fun p => clean1 p.1 p.2
def cleared (c : Cty) (snow : List Int) (cl : List Str) : List Int := (c.ss.zip snow).map fun p => if p.1.nm ∈ cl then 0 else p.2
def snowed (c : Cty) (snow : List Int) (fs : List Str) : List Int := (c.ss.zip snow).map fun p => if p.1.nm ∈ fs then min (p.2 + 1) (p.1.lim + 1) else p.2
def without (ps : List Pl) : Option Nat → List Pl
  | none => ps
  | some n => ps.set n .down
def behind (c : Cty) (z : Std) (g : List Pl) (a : Arc) (cs : List Bool) (b : Option Nat) : Std :=
  ⟨(z.time + 1) % c.day, a.1, snowed c (cleared c z.snow (cleanOf g cs)) a.2, without (comeIn g cs) b, z.fallen + if b.isNone then 0 else 1⟩
def ticks (c : Cty) (k : Sky) (z : Std) (os : List Ord) : List (Ans × Std) :=
  (arcsOf k z.state).zipIdx.flatMap fun a => (allComings c (gone c z os)).flatMap fun cs => (breaks c z).map fun b => ((a.2, cs, b), behind c z (gone c z os) a.1 cs b)
def shut (c : Cty) (z : Std) : List Str := ((c.ss.zip z.snow).filter fun p => decide (p.1.lim < p.2) && p.1.hrs.any fun h => decide (h.1 ≤ z.time) && decide (z.time < h.2)).map fun p => p.1.nm
def begin_ (c : Cty) (k : Sky) : Std := ⟨0, k.first, c.ss.map fun _ => 0, c.ps.map fun p => .at_ p.2, 0⟩
end Mi
namespace Mi
open PySem
def eSo : Option Stt → PyData
  | some s => eS s
  | none => .none
def canBe (c : Cty) (p : Pl) : Ord → Bool
  | none => true
  | some (n, _) => match streetOf c n, p with
    | some s, .at_ j => s.has j
    | _, _ => false
def areOrders (c : Cty) (z : Std) (os : List Ord) : Bool := decide (os.length = z.pls.length) && (z.pls.zip os).all fun p => canBe c p.1 p.2
def isOn : Pl → Bool
  | .on _ _ _ _ => true
  | _ => false
/-- those that come are on a street -/
def comeOk (ps : List Pl) (cs : List Bool) : Prop := ∀ p ∈ ps.zip cs, p.2 = true → isOn p.1 = true
def isAnswer (c : Cty) (k : Sky) (z : Std) (os : List Ord) (a : Ans) : Bool :=
  decide ((a.1 : Int) ≤ (arcsOf k z.state).length - 1) && decide (a.2.1.length = (gone c z os).length) && (((gone c z os).zip a.2.1).all fun p => decide (p.2 ∈ comings c p.1)) && decide (a.2.2 ∈ breaks c z)
def isWh (c : Cty) : Pl → Bool
  | .at_ j => decide (j ∈ c.js)
  | .on n j w l => match streetOf c n with
    | some s => s.has j && (decide (1 - c.late ≤ l) && decide (l ≤ s.thru w - 1))
    | none => false
  | .down => true
def isSnow (c : Cty) (snow : List Int) : Bool := decide (snow.length = c.ss.length) && (c.ss.zip snow).all fun p => decide (0 ≤ p.2) && decide (p.2 ≤ p.1.lim + 1)
def downs (ps : List Pl) : Nat := (ps.filter isDown).length
def isStd (c : Cty) (k : Sky) (z : Std) : Bool :=
  decide (0 ≤ z.time) && decide (z.time ≤ c.day - 1) && decide (z.state ∈ k.sts.map (·.1)) && isSnow c z.snow && decide (z.pls.length = c.ps.length) && z.pls.all (isWh c) && (decide (0 ≤ z.fallen) && decide (z.fallen ≤ c.falls)) && decide (z.fallen = downs z.pls)
end Mi
set_option Elab.async false
set_option linter.all false
set_option autoImplicit false
set_option maxRecDepth 100000
set_option maxHeartbeats 1000000
namespace Mi
open PySem PySem.Spec PyProof.Rows L2
/-! ### shapes: what can be compared -/
def Lay (n : Nat) (t : T) : Prop := t.canLay0 = true ∧ t.depth ≤ n
def Low (s : Str) : Prop := PyData.strOk s = true
theorem Lay.sh {n : Nat} {t : T} (h : Lay n t) (hn : n ≤ 64 := by decide) : SeqAt.shaped t = true := by
  unfold SeqAt.shaped
  rw [h.1, decide_eq_true (Nat.le_trans h.2 hn)]
  rfl
theorem Lay.mono {n m : Nat} {t : T} (h : Lay n t) (hm : n ≤ m) : Lay m t := ⟨h.1, Nat.le_trans h.2 hm⟩
theorem lay_int {n : Nat} {i : Int} : Lay n (.int i) := ⟨by simp [PyData.canLay0], by simp [PyData.depth]⟩
theorem lay_bool {n : Nat} {i : Bool} : Lay n (.bool i) := ⟨by simp [PyData.canLay0], by simp [PyData.depth]⟩
theorem lay_none {n : Nat} : Lay n .none := ⟨by simp [PyData.canLay0], by simp [PyData.depth]⟩
theorem lay_str {n : Nat} {s : Str} (h : Low s) : Lay n (.str s) := ⟨by simp only [PyData.canLay0]; exact h, by simp [PyData.depth]⟩
theorem lay_all {n : Nat} : ∀ {ts : List T}, (∀ t ∈ ts, Lay n t) → PyData.canLayAll0 ts = true ∧ PyData.depthAll ts ≤ n
  | [], _ => ⟨by simp [PyData.canLayAll0], by simp [PyData.depthAll]⟩
  | t :: ts, h => by
    have h1 := h t (by simp)
    have h2 := lay_all (ts := ts) fun u hu => h u (by simp [hu])
    refine ⟨by simp [PyData.canLayAll0, h1.1, h2.1], ?_⟩
    simp only [PyData.depthAll]
    exact Nat.max_le.mpr ⟨h1.2, h2.2⟩
theorem lay_tup {n : Nat} {ts : List T} (h : ∀ t ∈ ts, Lay n t) : Lay (n + 1) (.tuple ts) := by
  have := lay_all h
  exact ⟨by simpa [PyData.canLay0] using this.1, by simp only [PyData.depth]; omega⟩
theorem lay_lst {n : Nat} {ts : List T} (h : ∀ t ∈ ts, Lay n t) : Lay (n + 1) (.list ts) := by
  have := lay_all h
  exact ⟨by simpa [PyData.canLay0] using this.1, by simp only [PyData.depth]; omega⟩
theorem lay_map {α : Type} {n : Nat} {xs : List α} {f : α → T} (h : ∀ x ∈ xs, Lay n (f x)) : ∀ t ∈ xs.map f, Lay n t := by
  intro t ht
  obtain ⟨x, hx, rfl⟩ := List.mem_map.mp ht
  exact h x hx
theorem lay_strs {n : Nat} {xs : List Str} (h : ∀ x ∈ xs, Low x) : ∀ t ∈ xs.map PyData.str, Lay n t := lay_map fun x hx => lay_str (h x hx)
theorem Lay.refl {n : Nat} {t : T} (h : Lay n t) : PyData.eqv t t = true := SeqAt.eqv_refl t h.1
/-- an equal thing is equal -/
theorem eqT_refl {n : Nat} {t : T} (h : Lay n t) (hn : n ≤ 64 := by decide) : eqT t t = some true := by
  have a := h.sh hn
  have b := h.refl
  cases t <;> simp_all [eqT]
theorem neO_refl {n : Nat} {t : T} (h : Lay n t) (hn : n ≤ 64 := by decide) : neO t t = some (.bool false) := by simp [neO, eqT_refl h hn]
theorem eqO_refl {n : Nat} {t : T} (h : Lay n t) (hn : n ≤ 64 := by decide) : eqO t t = some (.bool true) := by simp [eqO, eqT_refl h hn]
/-- a text among texts -/
theorem eqv_str (x y : Str) : PyData.eqv (.str x) (.str y) = decide (x = y) := by
  simp only [PyData.eqv]
  by_cases h : x = y
  · simp [h]
  · simp [h]
theorem any_strs (x : Str) (ys : List Str) : (ys.map PyData.str).any (fun z => PyData.eqv z (.str x)) = decide (x ∈ ys) := by
  induction ys with
  | nil => simp
  | cons y ys ih =>
    rw [List.map_cons, List.any_cons, ih, eqv_str]
    by_cases h : y = x
    · subst h; simp
    · have : ¬x = y := fun e => h e.symm
      simp [h, this]
theorem hasT_strs {x : Str} {ys : List Str} (hx : Low x) (hy : ∀ y ∈ ys, Low y) : hasT (.str x) (.list (ys.map .str)) = some (decide (x ∈ ys)) ∧ hasT (.str x) (.tuple (ys.map .str)) = some (decide (x ∈ ys)) := by
  have h1 := (lay_str (n := 0) hx).sh
  have h2 := (lay_lst (lay_strs (n := 0) hy)).sh
  have h3 := (lay_tup (lay_strs (n := 0) hy)).sh
  constructor
  · simp only [hasT, h1, h2, and_self, if_true, any_strs]
  · simp only [hasT, h1, h3, and_self, if_true, any_strs]
theorem inO_strs {x : Str} {ys : List Str} (hx : Low x) (hy : ∀ y ∈ ys, Low y) : inO (.str x) (.list (ys.map .str)) = some (.bool (decide (x ∈ ys))) := by simp [inO, (hasT_strs hx hy).1]
theorem inO_strsT {x : Str} {ys : List Str} (hx : Low x) (hy : ∀ y ∈ ys, Low y) : inO (.str x) (.tuple (ys.map .str)) = some (.bool (decide (x ∈ ys))) := by simp [inO, (hasT_strs hx hy).2]
theorem inO_two {x a b : Str} (hx : Low x) (ha : Low a) (hb : Low b) : inO (.str x) (.tuple [.str a, .str b]) = some (.bool (decide (a = x) || decide (b = x))) := by
  rw [show ([.str a, .str b] : List T) = [a, b].map .str from rfl, inO_strsT hx (by simp [ha, hb])]
  by_cases h1 : x = a
  · subst h1; simp
  · by_cases h2 : x = b
    · subst h2; simp
    · have h1' : ¬a = x := fun e => h1 e.symm
      have h2' : ¬b = x := fun e => h2 e.symm
      simp [h1, h2, h1', h2']
/-! ### turns of loops -/
def Turn (t : DG) (body : DS) (x : T) (sl : Sl) (cs : Cs) : RS := match t (.t x) sl cs with
  | .ok sl1 cs1 => body sl1 cs1
  | .ex y cs1 => .ex y sl cs1
  | .bad => .bad
/-- a turn goes on with I, or the loop ends with P -/
def Go (I : Sl → Cs → Prop) (P : RS → Prop) : RS → Prop
  | .nx sl cs => I sl cs
  | .ct sl cs => I sl cs
  | .bk sl cs => P (.nx sl cs)
  | .rt r cs => P (.rt r cs)
  | .ex x sl cs => P (.ex x sl cs)
  | .bad => False
theorem unlk_none {ts : List T} {f : Cs → RS} {cs : Cs} : unlk none ts f cs = f cs := by simp [unlk, LockOk]
theorem loopF_go {α : Type} {enc : α → T} {t : DG} {body : DS} {all : List T} {P : RS → Prop} (I : List α → Sl → Cs → Prop) : ∀ (todo done : List α) (sl : Sl) (cs : Cs), I done sl cs →
    (∀ d x r sl cs, done ++ todo = d ++ x :: r → I d sl cs → Go (I (d ++ [x])) P (Turn t body (enc x) sl cs)) → (∀ sl cs, I (done ++ todo) sl cs → P (.nx sl cs)) → P (loopF t body none all (todo.map enc) sl cs)
  | [], done, sl, cs, h0, _, hk => by
    simp only [List.map_nil, loopF, unlk_none]
    exact hk sl cs (by simpa using h0)
  | x :: xs, done, sl, cs, h0, h, hk => by
    have q := h done x xs sl cs rfl h0
    unfold Turn at q
    simp only [List.map_cons]
    unfold loopF
    rw [if_pos (show LockOk none all cs from trivial)]
    cases e1 : t (.t (enc x)) sl cs with
    | bad => rw [e1] at q; exact q.elim
    | ex y cs1 => rw [e1] at q; simp only [unlk_none]; exact q
    | ok sl1 cs1 =>
      rw [e1] at q
      simp only at q ⊢
      cases e2 : body sl1 cs1 with
      | bad => rw [e2] at q; exact q.elim
      | nx sl2 cs2 =>
        rw [e2] at q
        simp only
        exact loopF_go I xs (done ++ [x]) sl2 cs2 q (fun d y r sl cs e => h d y r sl cs (by simpa using e)) (fun sl cs i => hk sl cs (by simpa using i))
      | ct sl2 cs2 =>
        rw [e2] at q
        simp only
        exact loopF_go I xs (done ++ [x]) sl2 cs2 q (fun d y r sl cs e => h d y r sl cs (by simpa using e)) (fun sl cs i => hk sl cs (by simpa using i))
      | bk sl2 cs2 => rw [e2] at q; simp only [unlk_none]; exact q
      | rt r cs2 => rw [e2] at q; simp only [unlk_none]; exact q
      | ex x sl2 cs2 => rw [e2] at q; simp only [unlk_none]; exact q
/-- behind a statement -/
def Sq (b : DS) (P : RS → Prop) : RS → Prop
  | .nx sl cs => P (b sl cs)
  | r => P r
theorem seq_go {P : RS → Prop} {a b : DS} {sl : Sl} {cs : Cs} (h : Sq b P (a sl cs)) : P (dSeq a b sl cs) := by
  unfold dSeq
  cases e : a sl cs <;> rw [e] at h <;> exact h
theorem for_go {α : Type} {P : RS → Prop} {it : DI} {t : DG} {body : DS} {sl : Sl} {cs cs1 : Cs} (xs : List α) (enc : α → T) (I : List α → Sl → Cs → Prop) (hit : it sl cs = .ok (xs.map enc, none) cs1) (h0 : I [] sl cs1)
    (hs : ∀ d x r sl cs, xs = d ++ x :: r → I d sl cs → Go (I (d ++ [x])) P (Turn t body (enc x) sl cs)) (hk : ∀ sl cs, I xs sl cs → P (.nx sl cs)) : P (dFor it t body sl cs) := by
  unfold dFor
  rw [hit]
  exact loopF_go I xs [] sl cs1 h0 (fun d x r sl cs e => hs d x r sl cs (by simpa using e)) (fun sl cs i => hk sl cs (by simpa using i))
theorem seq_for {α : Type} {P : RS → Prop} {it : DI} {t : DG} {body b : DS} {sl : Sl} {cs cs1 : Cs} (xs : List α) (enc : α → T) (I : List α → Sl → Cs → Prop) (hit : it sl cs = .ok (xs.map enc, none) cs1) (h0 : I [] sl cs1)
    (hs : ∀ d x r sl cs, xs = d ++ x :: r → I d sl cs → Go (I (d ++ [x])) (Sq b P) (Turn t body (enc x) sl cs)) (hk : ∀ sl cs, I xs sl cs → P (b sl cs)) : P (dSeq (dFor it t body) b sl cs) :=
  seq_go (for_go (P := Sq b P) xs enc I hit h0 hs hk)
/-- over a cell, which is locked meanwhile -/
theorem loopL_go {α : Type} {enc : α → T} {t : DG} {body : DS} {i : Nat} {all : List T} {P : RS → Prop} (I : List α → Sl → Cs → Prop) (hl : ∀ d sl cs, I d sl cs → cs[i]? = some (.lock all)) : ∀ (todo done : List α) (sl : Sl) (cs : Cs), I done sl cs →
    (∀ d x r sl cs, done ++ todo = d ++ x :: r → I d sl cs → Go (I (d ++ [x])) (fun _ => False) (Turn t body (enc x) sl cs)) → (∀ sl cs, I (done ++ todo) sl cs → P (.nx sl (cs.set i (.lst all)))) → P (loopF t body (some i) all (todo.map enc) sl cs)
  | [], done, sl, cs, h0, _, hk => by
    simp only [List.map_nil, loopF, unlk]
    rw [if_pos (show LockOk (some i) all cs from hl _ _ _ h0)]
    exact hk sl cs (by simpa using h0)
  | x :: xs, done, sl, cs, h0, h, hk => by
    have q := h done x xs sl cs rfl h0
    unfold Turn at q
    simp only [List.map_cons]
    unfold loopF
    rw [if_pos (show LockOk (some i) all cs from hl _ _ _ h0)]
    cases e1 : t (.t (enc x)) sl cs with
    | bad => rw [e1] at q; exact q.elim
    | ex y cs1 => rw [e1] at q; exact q.elim
    | ok sl1 cs1 =>
      rw [e1] at q
      simp only at q ⊢
      cases e2 : body sl1 cs1 with
      | bad => rw [e2] at q; exact q.elim
      | nx sl2 cs2 =>
        rw [e2] at q
        simp only
        exact loopL_go I hl xs (done ++ [x]) sl2 cs2 q (fun d y r sl cs e => h d y r sl cs (by simpa using e)) (fun sl cs i => hk sl cs (by simpa using i))
      | ct sl2 cs2 =>
        rw [e2] at q
        simp only
        exact loopL_go I hl xs (done ++ [x]) sl2 cs2 q (fun d y r sl cs e => h d y r sl cs (by simpa using e)) (fun sl cs i => hk sl cs (by simpa using i))
      | bk sl2 cs2 => rw [e2] at q; exact q.elim
      | rt r cs2 => rw [e2] at q; exact q.elim
      | ex x sl2 cs2 => rw [e2] at q; exact q.elim
theorem seq_forL {α : Type} {P : RS → Prop} {it : DI} {t : DG} {body b : DS} {sl : Sl} {cs cs1 : Cs} {i : Nat} (xs : List α) (enc : α → T) (I : List α → Sl → Cs → Prop) (hit : it sl cs = .ok (xs.map enc, some i) cs1) (hl : ∀ d sl cs, I d sl cs → cs[i]? = some (.lock (xs.map enc))) (h0 : I [] sl cs1)
    (hs : ∀ d x r sl cs, xs = d ++ x :: r → I d sl cs → Go (I (d ++ [x])) (fun _ => False) (Turn t body (enc x) sl cs)) (hk : ∀ sl cs, I xs sl cs → P (b sl (cs.set i (.lst (xs.map enc))))) : P (dSeq (dFor it t body) b sl cs) := by
  refine seq_go ?_
  unfold dFor
  rw [hit]
  exact loopL_go (P := Sq b P) I hl xs [] sl cs1 h0 (fun d x r sl cs e => hs d x r sl cs (by simpa using e)) (fun sl cs i => hk sl cs (by simpa using i))
/-! ### comprehensions -/
def CTurn (t : DG) (c : D Bool) (e : D SV) (vs : List Nat) (x : T) (sl : Sl) (cs : Cs) : R (Option SV) := match t (.t x) (wipeS sl vs) cs with
  | .ok sl1 cs1 => (match c sl1 cs1 with
    | .ok true cs2 => (match e sl1 cs2 with
      | .ok r cs3 => .ok (some r) cs3
      | _ => .bad)
    | .ok false cs2 => .ok none cs2
    | _ => .bad)
  | _ => .bad
theorem compL_enc {α : Type} {enc : α → T} {g : α → Option T} {t : DG} {c : D Bool} {e : D SV} {vs : List Nat} {sl : Sl} {cs : Cs} {all : List T} : ∀ (xs : List α) (acc : List T),
    (∀ x ∈ xs, ∀ d : Cs, d.length = cs.length + 1 → (∀ i, i < cs.length → d[i]? = cs[i]?) → CTurn t c e vs (enc x) sl d = .ok ((g x).map .t) d) → acc.length + (xs.filterMap g).length ≤ sizeLine →
    compL t c e vs cs.length none all (xs.map enc) sl (cs ++ [.lst acc]) = .ok () (cs ++ [.lst (acc ++ xs.filterMap g)])
  | [], acc, _, _ => by simp [compL, unlR, LockOk]
  | x :: xs, acc, h, hl => by
    have h1 := h x (by simp) (cs ++ [.lst acc]) (by simp) (fun i hi => by rw [List.getElem?_append_left hi])
    have h2 := fun acc hl => compL_enc (all := all) xs acc (fun y hy => h y (by simp [hy])) hl
    unfold CTurn at h1
    rw [List.map_cons]
    unfold compL
    rw [if_pos (show LockOk none all (cs ++ [.lst acc]) from trivial)]
    cases e1 : t (.t (enc x)) (wipeS sl vs) (cs ++ [.lst acc]) with
    | bad => rw [e1] at h1; cases h1
    | ex y cs1 => rw [e1] at h1; cases h1
    | ok sl1 cs1 =>
      rw [e1] at h1
      simp only at h1 ⊢
      cases e2 : c sl1 cs1 with
      | bad => rw [e2] at h1; cases h1
      | ex y cs1 => rw [e2] at h1; cases h1
      | ok b cs2 =>
        rw [e2] at h1
        cases b with
        | false =>
          simp only at h1 ⊢
          obtain ⟨ha, hb⟩ := R.ok.inj h1
          subst hb
          have : g x = none := by cases z : g x with
            | none => rfl
            | some u => rw [z] at ha; cases ha
          rw [List.filterMap_cons_none this] at hl ⊢
          exact h2 acc hl
        | true =>
          simp only at h1 ⊢
          cases e3 : e sl1 cs2 with
          | bad => rw [e3] at h1; cases h1
          | ex y cs1 => rw [e3] at h1; cases h1
          | ok r cs3 =>
            rw [e3] at h1
            simp only at h1 ⊢
            obtain ⟨ha, hb⟩ := R.ok.inj h1
            subst hb
            cases z : g x with
            | none => rw [z] at ha; cases ha
            | some u =>
              rw [z] at ha
              cases ha
              rw [List.filterMap_cons_some z] at hl ⊢
              simp only [List.length_cons] at hl
              have a : appC (.c cs.length) (.t u) (cs ++ [.lst acc]) = .ok (.t .none) (cs ++ [.lst (acc ++ [u])]) := by
                have lt : acc.length < sizeLine := by omega
                simp [appC, take1, lt]
              rw [a]
              simp only
              rw [h2 (acc ++ [u]) (by simp; omega)]
              simp
theorem dComp_enc {α : Type} (xs : List α) (enc : α → T) (g : α → Option T) {it : DI} {t : DG} {c : D Bool} {e : D SV} {vs : List Nat} {sl : Sl} {cs : Cs} (hi : it sl cs = .ok (xs.map enc, none) cs)
    (h : ∀ x ∈ xs, ∀ d : Cs, d.length = cs.length + 1 → (∀ i, i < cs.length → d[i]? = cs[i]?) → CTurn t c e vs (enc x) sl d = .ok ((g x).map .t) d) (hl : (xs.filterMap g).length ≤ sizeLine) :
    dComp it t c e vs sl cs = .ok (.t (.list (xs.filterMap g))) cs := by
  unfold dComp
  rw [hi]
  simp only [R.bind]
  rw [compL_enc xs [] h (by simpa using hl)]
  simp [take1]
/-- without a condition -/
theorem dComp_map {α : Type} (xs : List α) (enc : α → T) (g : α → T) {it : DI} {t : DG} {c : D Bool} {e : D SV} {vs : List Nat} {sl : Sl} {cs : Cs} (hi : it sl cs = .ok (xs.map enc, none) cs)
    (h : ∀ x ∈ xs, ∀ d : Cs, d.length = cs.length + 1 → (∀ i, i < cs.length → d[i]? = cs[i]?) → CTurn t c e vs (enc x) sl d = .ok (some (.t (g x))) d) (hl : xs.length ≤ sizeLine) :
    dComp it t c e vs sl cs = .ok (.t (.list (xs.map g))) cs := by
  have e0 : xs.filterMap (fun x => some (g x)) = xs.map g := by rw [← List.filterMap_eq_map]; rfl
  rw [dComp_enc xs enc (fun x => some (g x)) hi h (by rw [e0]; simpa using hl), e0]
theorem dCompN_map {α : Type} (xs : List α) (enc : α → T) (g : α → T) {it : DI} {t : DG} {c : D Bool} {e : D SV} {vs : List Nat} {sl : Sl} {cs : Cs} (hi : it sl cs = .ok (xs.map enc, none) cs)
    (h : ∀ x ∈ xs, ∀ d : Cs, d.length = cs.length + 1 → (∀ i, i < cs.length → d[i]? = cs[i]?) → CTurn t c e vs (enc x) sl d = .ok (some (.t (g x))) d) (hl : xs.length ≤ sizeLine) :
    dCompN it t c e vs sl cs = .ok (.c cs.length) (cs ++ [.lst (xs.map g)]) := by
  have e0 : xs.filterMap (fun x => some (g x)) = xs.map g := by rw [← List.filterMap_eq_map]; rfl
  unfold dCompN
  rw [hi]
  simp only [R.bind]
  rw [compL_enc (g := fun x => some (g x)) xs [] h (by rw [e0]; simpa using hl), e0]
  simp only [R.bind, List.nil_append]
  congr 1
  exact List.take_of_length_le (by simp)
/-! many clauses -/
def Adds (base : Cs) (inner : Sl → Cs → R Unit) (sl : Sl) (add : List T) : Prop := ∀ acc : List T, acc.length + add.length ≤ sizeLine → inner sl (base ++ [.lst acc]) = .ok () (base ++ [.lst (acc ++ add)])
theorem adds_end {base : Cs} {e : D SV} {sl : Sl} {u : T} (h : ∀ acc, e sl (base ++ [.lst acc]) = .ok (.t u) (base ++ [.lst acc])) : Adds base (inL e base.length []) sl [u] := by
  intro acc hl
  simp only [List.length_cons, List.length_nil] at hl
  have lt : acc.length < sizeLine := by omega
  simp [inL, h, appC, take1, lt]
theorem clL_adds {α : Type} {base : Cs} {cd : Cd} {inner : Sl → Cs → R Unit} {sl : Sl} {enc : α → T} {g : α → List T} {all : List T} : ∀ (xs : List α),
    (∀ x ∈ xs, ∃ s, (∀ acc, cd.t (.t (enc x)) (wipeS sl cd.vs) (base ++ [.lst acc]) = .ok s (base ++ [.lst acc])) ∧ (∀ acc, cd.c s (base ++ [.lst acc]) = .ok true (base ++ [.lst acc])) ∧ Adds base inner s (g x)) →
    Adds base (clL cd inner none all (xs.map enc)) sl (xs.flatMap g)
  | [], _ => fun acc _ => by simp [clL, unlR, LockOk]
  | x :: xs, h => fun acc hl => by
    obtain ⟨s, h1, h2, h3⟩ := h x (by simp)
    simp only [List.flatMap_cons, List.length_append] at hl
    rw [List.map_cons]
    unfold clL
    rw [if_pos (show LockOk none all _ from trivial), h1]
    simp only [h2]
    rw [h3 acc (by omega)]
    simp only
    rw [clL_adds (g := g) xs (fun y hy => h y (by simp [hy])) (acc ++ g x) (by rw [List.length_append]; omega)]
    simp
theorem inL_adds {α : Type} {base : Cs} {cd : Cd} {cds : List Cd} {e : D SV} {sl : Sl} {enc : α → T} {g : α → List T} (xs : List α) (hit : ∀ acc, cd.it sl (base ++ [.lst acc]) = .ok (xs.map enc, none) (base ++ [.lst acc]))
    (h : ∀ x ∈ xs, ∃ s, (∀ acc, cd.t (.t (enc x)) (wipeS sl cd.vs) (base ++ [.lst acc]) = .ok s (base ++ [.lst acc])) ∧ (∀ acc, cd.c s (base ++ [.lst acc]) = .ok true (base ++ [.lst acc])) ∧ Adds base (inL e base.length cds) s (g x)) :
    Adds base (inL e base.length (cd :: cds)) sl (xs.flatMap g) := by
  intro acc hl
  simp only [inL, hit]
  exact clL_adds xs h acc hl
theorem dCompM_adds {α : Type} {cs : Cs} {cd : Cd} {cds : List Cd} {e : D SV} {sl : Sl} (xs : List α) (enc : α → T) (g : α → List T) (hit : cd.it sl cs = .ok (xs.map enc, none) cs)
    (h : ∀ x ∈ xs, ∃ s, (∀ acc, cd.t (.t (enc x)) (wipeS sl cd.vs) (cs ++ [.lst acc]) = .ok s (cs ++ [.lst acc])) ∧ (∀ acc, cd.c s (cs ++ [.lst acc]) = .ok true (cs ++ [.lst acc])) ∧ Adds cs (inL e cs.length cds) s (g x))
    (hl : (xs.flatMap g).length ≤ sizeLine) : dCompM cd cds e sl cs = .ok (.t (.list (xs.flatMap g))) cs := by
  unfold dCompM
  rw [hit]
  simp only [R.bind]
  rw [clL_adds xs h [] (by simpa using hl)]
  simp [finC, take1]
end Mi
set_option Elab.async false
set_option linter.all false
set_option autoImplicit false
set_option maxRecDepth 100000
set_option maxHeartbeats 1000000
namespace Mi
open PySem PySem.Spec PyProof.Rows L2
/-! ### reckoning with meanings, as rules for simp: each fires only where all is given -/
section
variable {α β : Type} (sl : Sl) (cs : Cs) (a b c d : D SV) (s1 s2 s3 : DS) (p q : D Bool) (e : D (List SV)) (x y z : T) (ts us : List T) (r r2 : SV) (rs : List SV) (i n : Nat)
@[simp] theorem x_bind_ok (a : α) (k : α → Cs → R β) : (R.ok a cs).bind k = k a cs := id rfl
@[simp] theorem x_bind_ex (a : Xc) (k : α → Cs → R β) : (R.ex a cs).bind k = .ex a cs := id rfl
@[simp] theorem x_bind_bad (k : α → Cs → R β) : (R.bad : R α).bind k = .bad := id rfl
@[simp] theorem x_bindS_ok (a : α) (k : α → Cs → RS) : (R.ok a cs).bindS sl k = k a cs := id rfl
@[simp] theorem x_bindS_ex (a : Xc) (k : α → Cs → RS) : (R.ex a cs).bindS sl k = .ex a sl cs := id rfl
@[simp] theorem x_bindS_bad (k : α → Cs → RS) : (R.bad : R α).bindS sl k = .bad := id rfl
@[simp] theorem x_var : dVar i sl cs = (match sl[i]? with
  | some (some r) => .ok r cs
  | _ => .bad) := id rfl
@[simp] theorem x_c : dC x sl cs = .ok (.t x) cs := id rfl
@[simp] theorem x_bin (f : SV → SV → Cs → R SV) : dBin f a b sl cs = (a sl cs).bind fun r1 c1 => (b sl c1).bind fun r2 c2 => f r1 r2 c2 := id rfl
@[simp] theorem x_add : dAdd a b sl cs = (a sl cs).bind fun r1 c1 => (b sl c1).bind fun r2 c2 => op2 addT r1 r2 c2 := id rfl
@[simp] theorem x_sub : dSub a b sl cs = (a sl cs).bind fun r1 c1 => (b sl c1).bind fun r2 c2 => op2 subT r1 r2 c2 := id rfl
@[simp] theorem x_mul : dMul a b sl cs = (a sl cs).bind fun r1 c1 => (b sl c1).bind fun r2 c2 => op2 mulT r1 r2 c2 := id rfl
@[simp] theorem x_fdiv : dFdiv a b sl cs = (a sl cs).bind fun r1 c1 => (b sl c1).bind fun r2 c2 => op2 fdivT r1 r2 c2 := id rfl
@[simp] theorem x_mod : dMod a b sl cs = (a sl cs).bind fun r1 c1 => (b sl c1).bind fun r2 c2 => op2 modT r1 r2 c2 := id rfl
@[simp] theorem x_pow : dPow a b sl cs = (a sl cs).bind fun r1 c1 => (b sl c1).bind fun r2 c2 => op2 powT r1 r2 c2 := id rfl
@[simp] theorem x_idx : dIdx a b sl cs = (a sl cs).bind fun r1 c1 => (b sl c1).bind fun r2 c2 => op2 idxT r1 r2 c2 := id rfl
@[simp] theorem x_un (h : T → Option T) : dUn h a sl cs = (a sl cs).bind fun r c => op1 h r c := id rfl
@[simp] theorem x_res : res (.t x) cs = some x := id rfl
@[simp] theorem x_resc : res (.c i) cs = (match cs[i]? with
    | some (.lst ts) => some (.list ts)
    | some (.lock ts) => some (.list ts)
    | some (.dct kvs) => some (.dict kvs)
    | _ => none) := id rfl
@[simp] theorem x_op2 (h : T → T → Option T) : op2 h r r2 cs = (match res r cs, res r2 cs with
  | some ta, some tb => (match h ta tb with | some t => .ok (.t t) cs | none => .bad)
  | _, _ => .bad) := id rfl
@[simp] theorem x_op1 (h : T → Option T) : op1 h r cs = (match res r cs with
  | some ta => (match h ta with | some t => .ok (.t t) cs | none => .bad)
  | none => .bad) := id rfl
@[simp] theorem x_test : dTest a sl cs = (a sl cs).bind fun r c => (match res r c with
  | some (.bool b) => .ok b c
  | _ => .bad) := id rfl
@[simp] theorem x_andB : dAndB p q sl cs = (p sl cs).bind fun r c => if r = true then q sl c else .ok false c := id rfl
@[simp] theorem x_orB : dOrB p q sl cs = (p sl cs).bind fun r c => if r = true then .ok true c else q sl c := id rfl
@[simp] theorem x_notB : dNotB p sl cs = (p sl cs).bind fun r c => .ok (!r) c := id rfl
@[simp] theorem x_B : dB p sl cs = (p sl cs).bind fun b c => .ok (.t (.bool b)) c := id rfl
@[simp] theorem x_andV : dAndV a b sl cs = (dTest a sl cs).bind fun r c => if r = true then b sl c else .ok (.t (.bool false)) c := id rfl
@[simp] theorem x_orV : dOrV a b sl cs = (dTest a sl cs).bind fun r c => if r = true then .ok (.t (.bool true)) c else b sl c := id rfl
@[simp] theorem x_notV : dNotV a sl cs = (dTest a sl cs).bind fun r c => .ok (.t (.bool (!r))) c := id rfl
@[simp] theorem x_if : dIf p a b sl cs = (p sl cs).bind fun r c => if r = true then a sl c else b sl c := id rfl
@[simp] theorem x_nil : dNil sl cs = .ok [] cs := id rfl
@[simp] theorem x_cons : dCons a e sl cs = (a sl cs).bind fun x c => (e sl c).bind fun xs c2 => .ok (x :: xs) c2 := id rfl
@[simp] theorem x_star : dStar a e sl cs = (a sl cs).bind fun x c => (match res x c with
  | some t => (match seqT t with
    | some ts => (e sl c).bind fun xs c2 => .ok (ts.map .t ++ xs) c2
    | none => .bad)
  | none => .bad) := id rfl
@[simp] theorem x_tup : dTup e sl cs = (e sl cs).bind fun rs c => (match takes rs c with
  | some (ts, c') => if ts.length ≤ sizeLine then .ok (.t (.tuple ts)) c' else .bad
  | none => .bad) := id rfl
@[simp] theorem x_lst : dLst e sl cs = (e sl cs).bind fun rs c => (match takes rs c with
  | some (ts, c') => if ts.length ≤ sizeLine then .ok (.t (.list ts)) c' else .bad
  | none => .bad) := id rfl
@[simp] theorem x_lstN : dLstN e sl cs = (e sl cs).bind fun rs c => (match takes rs c with
  | some (ts, c') => if ts.length ≤ sizeLine then .ok (.c c'.length) (c' ++ [.lst ts]) else .bad
  | none => .bad) := id rfl
@[simp] theorem x_take1 : take1 (.t x) cs = some (x, cs) := id rfl
@[simp] theorem x_take1c : take1 (.c i) cs = (match cs[i]? with
    | some (.lst ts) => some (.list ts, cs.set i .dead)
    | some (.dct ts) => some (.dict ts, cs.set i .dead)
    | _ => none) := id rfl
@[simp] theorem x_takes0 : takes [] cs = some ([], cs) := id rfl
@[simp] theorem x_takes1 : takes (r :: rs) cs = (match take1 r cs with
    | some (t, c1) => (match takes rs c1 with
      | some (ts, c2) => some (t :: ts, c2)
      | none => none)
    | none => none) := id rfl
theorem takes_app : ∀ (ts : List T) (rs : List SV) (cs : Cs), takes (ts.map .t ++ rs) cs = (match takes rs cs with
      | some (us, c2) => some (ts ++ us, c2)
      | none => none)
  | [], rs, cs => by
    simp only [List.map_nil, List.nil_append]
    cases takes rs cs <;> rfl
  | t :: ts, rs, cs => by
    have h := takes_app ts rs cs
    simp only [List.map_cons, List.cons_append, x_takes1, x_take1, h]
    cases takes rs cs <;> rfl
@[simp] theorem x_takesA : takes (ts.map .t ++ rs) cs = (match takes rs cs with
      | some (us, c2) => some (ts ++ us, c2)
      | none => none) := takes_app ts rs cs
@[simp] theorem x_takesM (xs : List α) (f : α → T) : takes (xs.map (SV.t ∘ f) ++ rs) cs = (match takes rs cs with
      | some (us, c2) => some (xs.map f ++ us, c2)
      | none => none) := by rw [← List.map_map]; exact takes_app _ rs cs
@[simp] theorem x_no : dNo sl cs = .ok none cs := id rfl
@[simp] theorem x_part : dPart a sl cs = (a sl cs).bind fun r c => (match res r c with
  | some (.int i) => .ok (some i) c
  | _ => .bad) := id rfl
@[simp] theorem x_slc (lo hi : D (Option Int)) : dSlc a lo hi sl cs = (a sl cs).bind fun r c => (lo sl c).bind fun l c1 => (hi sl c1).bind fun h c2 => op1 (fun t => sliceT t l h) r c2 := id rfl
@[simp] theorem x_call (F : List SV → Cs → R SV) : dCall F e sl cs = (e sl cs).bind F := id rfl
@[simp] theorem x_chain (h h' : T → T → Option T) : dChain h h' a b c sl cs = (a sl cs).bind fun r1 c1 => (b sl c1).bind fun r2 c2 => (op2 h r1 r2 c2).bind fun r3 c3 =>
  (match r3 with
  | .t (.bool true) => (c sl c3).bind fun r4 c4 => op2 h' r2 r4 c4
  | .t (.bool false) => .ok (.t (.bool false)) c3
  | _ => .bad) := id rfl
/-! statements -/
@[simp] theorem x_skip : dSkip sl cs = .nx sl cs := id rfl
@[simp] theorem x_break : dBreak sl cs = .bk sl cs := id rfl
@[simp] theorem x_cont : dCont sl cs = .ct sl cs := id rfl
@[simp] theorem x_expr : dExpr a sl cs = (a sl cs).bindS sl fun _ c => .nx sl c := id rfl
@[simp] theorem x_ret : dRet a sl cs = (a sl cs).bindS sl fun r c => .rt r c := id rfl
@[simp] theorem x_retN : dRetN sl cs = .rt (.t .none) cs := id rfl
@[simp] theorem x_ifs : dIfS p s1 s2 sl cs = (p sl cs).bindS sl fun r c1 => if r = true then s1 sl c1 else s2 sl c1 := id rfl
@[simp] theorem x_asg (t : DG) : dAsg a t sl cs = (a sl cs).bindS sl fun r c => (t r sl c).bindS sl fun sl1 c1 => .nx sl1 c1 := id rfl
@[simp] theorem x_par (j : Nat) : dPar i j e sl cs = (e sl cs).bindS sl fun rs c => (match rs with
  | [r, q] => .nx ((sl.set i (some r)).set j (some q)) c
  | _ => .bad) := id rfl
@[simp] theorem x_seq_asg (t : DG) : dSeq (dAsg a t) s2 sl cs = (a sl cs).bindS sl fun r c => (t r sl c).bindS sl fun sl1 c1 => s2 sl1 c1 := by
  unfold dSeq; rw [x_asg]; cases a sl cs with
  | ok r c => simp only [x_bindS_ok]; cases t r sl c <;> rfl
  | ex x c => rfl
  | bad => rfl
@[simp] theorem x_seq_expr : dSeq (dExpr a) s2 sl cs = (a sl cs).bindS sl fun r c => s2 sl c := by unfold dSeq; rw [x_expr]; cases a sl cs <;> rfl
@[simp] theorem x_seq_ret : dSeq (dRet a) s2 sl cs = (a sl cs).bindS sl fun r c => .rt r c := by unfold dSeq; rw [x_ret]; cases a sl cs <;> rfl
@[simp] theorem x_seq_retN : dSeq dRetN s2 sl cs = .rt (.t .none) cs := id rfl
@[simp] theorem x_seq_skip : dSeq dSkip s2 sl cs = s2 sl cs := id rfl
@[simp] theorem x_seq_cont : dSeq dCont s2 sl cs = .ct sl cs := id rfl
@[simp] theorem x_seq_break : dSeq dBreak s2 sl cs = .bk sl cs := id rfl
@[simp] theorem x_seq_seq : dSeq (dSeq s1 s2) s3 sl cs = dSeq s1 (dSeq s2 s3) sl cs := by unfold dSeq; cases s1 sl cs <;> rfl
@[simp] theorem x_seq_ifs : dSeq (dIfS p s1 s2) s3 sl cs = (p sl cs).bindS sl fun r c1 => if r = true then dSeq s1 s3 sl c1 else dSeq s2 s3 sl c1 := by
  unfold dSeq; rw [x_ifs]; cases p sl cs with
  | ok r c => cases r <;> rfl
  | ex x c => rfl
  | bad => rfl
@[simp] theorem x_seq_par (j : Nat) : dSeq (dPar i j e) s2 sl cs = (e sl cs).bindS sl fun rs c => (match rs with
  | [r, q] => s2 ((sl.set i (some r)).set j (some q)) c
  | _ => .bad) := by
  unfold dSeq; rw [x_par]; cases e sl cs with
  | ex x c => rfl
  | bad => rfl
  | ok rs c =>
    simp only [x_bindS_ok]
    match rs with
    | [] => rfl
    | [r] => rfl
    | [r, q] => rfl
    | r :: q :: u :: v => rfl
@[simp] theorem x_raise (no : Nat) (fs : List Str) : dRaise no fs e sl cs = (e sl cs).bindS sl fun rs c => (match takes rs c with
  | some (ts, c2) => if ts.length = fs.length then .ex ⟨no, (fs.zip ts).reverse⟩ sl c2 else .bad
  | none => .bad) := id rfl
@[simp] theorem x_seq_raise (no : Nat) (fs : List Str) : dSeq (dRaise no fs e) s2 sl cs = (e sl cs).bindS sl fun rs c => (match takes rs c with
  | some (ts, c2) => if ts.length = fs.length then .ex ⟨no, (fs.zip ts).reverse⟩ sl c2 else .bad
  | none => .bad) := by
  unfold dSeq; rw [x_raise]; cases e sl cs with
  | ex x c => rfl
  | bad => rfl
  | ok rs c =>
    simp only [x_bindS_ok]
    cases takes rs c with
    | none => rfl
    | some u => obtain ⟨ts, c2⟩ := u; by_cases h : ts.length = fs.length <;> simp [h]
/-! targets -/
@[simp] theorem x_tgName : tgName i r sl cs = .ok (sl.set i (some r)) cs := id rfl
@[simp] theorem x_tgNil : tgNil [] sl cs = .ok sl cs := id rfl
@[simp] theorem x_tgCons (u : DGs) : tgCons i u (r :: rs) sl cs = u rs (sl.set i (some r)) cs := id rfl
@[simp] theorem x_tgIn (t : DG) (u : DGs) : tgIn t u (r :: rs) sl cs = (t r sl cs).bind fun sl1 cs1 => u rs sl1 cs1 := id rfl
@[simp] theorem x_tgTup (t : DGs) : tgTup n t (.t (.tuple ts)) sl cs = if ts.length = n then t (ts.map .t) sl cs else .bad := id rfl
@[simp] theorem x_tgSub : tgSub a b r sl cs = (a sl cs).bind fun ro c => (b sl c).bind fun ri c1 => (setC ro ri r c1).bind fun _ c2 => .ok sl c2 := id rfl
/-! what is gone through -/
@[simp] theorem x_iter_c : dIter a sl cs = (a sl cs).bind fun r c => (match r with
  | .t (.str z) => .ok (signT z, none) c
  | .t t => (match seqT t with | some ts => .ok (ts, none) c | none => .bad)
  | .c i => (match c[i]? with | some (.lst ts) => .ok (ts, some i) (c.set i (.lock ts)) | _ => .bad)
  | .x _ => .bad) := id rfl
@[simp] theorem x_enum : dEnum a sl cs = (a sl cs).bind fun r c => (match take1 r c with
  | some (t, c2) => (match seqT t with
    | some ts => .ok (enumT ts, none) c2
    | none => .bad)
  | none => .bad) := id rfl
@[simp] theorem x_zip : dZip a b sl cs = (a sl cs).bind fun r c => (b sl c).bind fun r2 c2 => (match take1 r c2 with
  | some (t, c3) => (match take1 r2 c3 with
    | some (t2, c4) => (match seqT t, seqT t2 with
      | some ts, some us => .ok (zipT ts us, none) c4
      | _, _ => .bad)
    | none => .bad)
  | none => .bad) := id rfl
@[simp] theorem x_rng1 : dRng1 a sl cs = (a sl cs).bind fun r c => (match res r c with
  | some (.int j) => if -(2 ^ 62) ≤ j ∧ j < 2 ^ 62 then .ok (rngT 0 j.toNat, none) c else .bad
  | _ => .bad) := id rfl
@[simp] theorem x_app : dApp a b sl cs = (a sl cs).bind fun ro c => if isLive ro c = true then (b sl c).bind fun r c1 => appC ro r c1 else .bad := id rfl
@[simp] theorem x_appC : appC (.c i) r cs = (match take1 r cs with
    | some (t, c1) => (match c1[i]? with
      | some (.lst ts) => if ts.length < sizeLine then .ok (.t .none) (c1.set i (.lst (ts ++ [t]))) else .bad
      | _ => .bad)
    | none => .bad) := id rfl
@[simp] theorem x_live : isLive (.c i) cs = (match cs[i]? with | some (.lst _) => true | _ => false) := id rfl
@[simp] theorem x_yes : dYes sl cs = .ok true cs := id rfl
@[simp] theorem x_lenSet : dLenSet a sl cs = (a sl cs).bind fun r c => (match res r c with
  | some t => (match seqT t with
    | some ts => (match strsT ts with
      | some xs => if xs.length < 4000 then .ok (.t (.int (uniq [] xs).length)) c else .bad
      | none => .bad)
    | none => .bad)
  | none => .bad) := id rfl
/-! operations on data -/
@[simp] theorem x_seqT : seqT (.tuple ts) = some ts := id rfl
@[simp] theorem x_seqL : seqT (.list ts) = some ts := id rfl
@[simp] theorem x_addI (i j : Int) : addT (.int i) (.int j) = some (.int (i + j)) := id rfl
@[simp] theorem x_subI (i j : Int) : subT (.int i) (.int j) = some (.int (i - j)) := id rfl
@[simp] theorem x_addTup : addT (.tuple ts) (.tuple us) = if ts.length + us.length ≤ sizeLine then some (.tuple (ts ++ us)) else none := id rfl
@[simp] theorem x_addLst : addT (.list ts) (.list us) = if ts.length + us.length ≤ sizeLine then some (.list (ts ++ us)) else none := id rfl
@[simp] theorem x_modI (i j : Int) : modT (.int i) (.int j) = if 0 < j then some (.int (i % j)) else none := id rfl
@[simp] theorem x_fdivI (i j : Int) : fdivT (.int i) (.int j) = if 0 < j ∧ j.natAbs.log2 < 9000 then some (.int (i / j)) else none := id rfl
@[simp] theorem x_mulI (i j : Int) : mulT (.int i) (.int j) = if i.natAbs.log2 + j.natAbs.log2 < 1000000 then some (.int (i * j)) else none := id rfl
@[simp] theorem x_neg (i : Int) : negT (.int i) = some (.int (-i)) := id rfl
@[simp] theorem x_eqI (i j : Int) : eqO (.int i) (.int j) = some (.bool (decide (i = j))) := id rfl
@[simp] theorem x_neI (i j : Int) : neO (.int i) (.int j) = some (.bool (!decide (i = j))) := id rfl
@[simp] theorem x_eqS (i j : Str) : eqO (.str i) (.str j) = some (.bool (decide (i = j))) := id rfl
@[simp] theorem x_neS (i j : Str) : neO (.str i) (.str j) = some (.bool (!decide (i = j))) := id rfl
@[simp] theorem x_lt (i j : Int) : ltT (.int i) (.int j) = some (.bool (decide (i < j))) := id rfl
@[simp] theorem x_le (i j : Int) : leT (.int i) (.int j) = some (.bool (decide (i ≤ j))) := id rfl
@[simp] theorem x_gt (i j : Int) : gtT (.int i) (.int j) = some (.bool (decide (j < i))) := id rfl
@[simp] theorem x_ge (i j : Int) : geT (.int i) (.int j) = some (.bool (decide (j ≤ i))) := id rfl
@[simp] theorem x_isN0 : isN .none .none = some (.bool true) := id rfl
@[simp] theorem x_isN1 (i : Int) : isN (.int i) .none = some (.bool false) := id rfl
@[simp] theorem x_isN2 : isN (.tuple ts) .none = some (.bool false) := id rfl
@[simp] theorem x_notN0 : notN .none .none = some (.bool false) := id rfl
@[simp] theorem x_notN1 (i : Int) : notN (.int i) .none = some (.bool true) := id rfl
@[simp] theorem x_notN2 : notN (.tuple ts) .none = some (.bool true) := id rfl
@[simp] theorem x_lenL : lenT (.list ts) = some (.int ts.length) := id rfl
@[simp] theorem x_lenT : lenT (.tuple ts) = some (.int ts.length) := id rfl
@[simp] theorem x_tupL : tupleT (.list ts) = some (.tuple ts) := id rfl
@[simp] theorem x_tupT : tupleT (.tuple ts) = some (.tuple ts) := id rfl
@[simp] theorem x_lstL : listT (.list ts) = some (.list ts) := id rfl
@[simp] theorem x_lstT : listT (.tuple ts) = some (.list ts) := id rfl
@[simp] theorem x_intI (i : Int) : intT (.int i) = some (.int i) := id rfl
@[simp] theorem x_isi (f : String → Bool) : isiT f x = some (.bool (f (tyName x))) := id rfl
@[simp] theorem x_minI (i j : Int) : minT (.int i) (.int j) = some (.int (if j < i then j else i)) := id rfl
theorem bools_map (bs : List Bool) : boolsT (bs.map .bool) = some bs := by
  induction bs with
  | nil => rfl
  | cons b bs ih => simp [boolsT, ih]
@[simp] theorem x_all (bs : List Bool) : allT (.list (bs.map .bool)) = some (.bool (bs.all id)) := by simp [allT, bools_map]
@[simp] theorem x_any (bs : List Bool) : anyT (.list (bs.map .bool)) = some (.bool (bs.any id)) := by simp [anyT, bools_map]
end
/-! a def's body -/
def Fin_ (n : Nat) (r : R SV) (o : RS) : Prop := (match o with
  | .nx _ c => finR n (.t .none) c
  | .rt v c => finR n v c
  | .ex x _ c => .ex x (c.take n)
  | _ => .bad) = r
theorem run_go {N : Nat} {body : DS} {rs : List SV} {cs : Cs} {r : R SV} (h : Fin_ cs.length r (body (rs.map some ++ List.replicate (N - rs.length) none) cs)) : runF N body rs cs = r := by
  unfold Fin_ at h
  unfold runF
  exact h
@[simp] theorem fin_rt (n : Nat) (r : R SV) (v : SV) (c : Cs) : Fin_ n r (.rt v c) = (finR n v c = r) := id rfl
@[simp] theorem fin_nx (n : Nat) (r : R SV) (sl : Sl) (c : Cs) : Fin_ n r (.nx sl c) = (finR n (.t .none) c = r) := id rfl
@[simp] theorem fin_ex (n : Nat) (r : R SV) (x : Xc) (sl : Sl) (c : Cs) : Fin_ n r (.ex x sl c) = (.ex x (c.take n) = r) := id rfl
@[simp] theorem finR_t (n : Nat) (x : T) (c : Cs) : finR n (.t x) c = .ok (.t x) (c.take n) := id rfl
@[simp] theorem finR_c (n i : Nat) (c : Cs) : finR n (.c i) c = if i < n then .ok (.c i) (c.take n) else (match take1 (.c i) c with
    | some (t, c1) => .ok (.t t) (c1.take n)
    | none => .bad) := id rfl
@[simp] theorem go_nx (I : Sl → Cs → Prop) (P : RS → Prop) (sl : Sl) (cs : Cs) : Go I P (.nx sl cs) = I sl cs := id rfl
@[simp] theorem go_ct (I : Sl → Cs → Prop) (P : RS → Prop) (sl : Sl) (cs : Cs) : Go I P (.ct sl cs) = I sl cs := id rfl
@[simp] theorem go_bk (I : Sl → Cs → Prop) (P : RS → Prop) (sl : Sl) (cs : Cs) : Go I P (.bk sl cs) = P (.nx sl cs) := id rfl
@[simp] theorem go_rt (I : Sl → Cs → Prop) (P : RS → Prop) (r : SV) (cs : Cs) : Go I P (.rt r cs) = P (.rt r cs) := id rfl
@[simp] theorem go_ex (I : Sl → Cs → Prop) (P : RS → Prop) (x : Xc) (sl : Sl) (cs : Cs) : Go I P (.ex x sl cs) = P (.ex x sl cs) := id rfl
@[simp] theorem sq_nx (b : DS) (P : RS → Prop) (sl : Sl) (cs : Cs) : Sq b P (.nx sl cs) = P (b sl cs) := id rfl
@[simp] theorem sq_rt (b : DS) (P : RS → Prop) (r : SV) (cs : Cs) : Sq b P (.rt r cs) = P (.rt r cs) := id rfl
@[simp] theorem sq_ex (b : DS) (P : RS → Prop) (x : Xc) (sl : Sl) (cs : Cs) : Sq b P (.ex x sl cs) = P (.ex x sl cs) := id rfl
@[simp] theorem x_turn (t : DG) (body : DS) (x : T) (sl : Sl) (cs : Cs) : Turn t body x sl cs = (t (.t x) sl cs).bindS sl fun sl1 cs1 => body sl1 cs1 := by unfold Turn; cases t (.t x) sl cs <;> rfl
@[simp] theorem x_cturn (t : DG) (c : D Bool) (e : D SV) (vs : List Nat) (x : T) (sl : Sl) (cs : Cs) : CTurn t c e vs x sl cs = (match t (.t x) (wipeS sl vs) cs with
  | .ok sl1 cs1 => (match c sl1 cs1 with
    | .ok true cs2 => (match e sl1 cs2 with
      | .ok r cs3 => .ok (some r) cs3
      | _ => .bad)
    | .ok false cs2 => .ok none cs2
    | _ => .bad)
  | _ => .bad) := id rfl
@[simp] theorem x_wipe0 (sl : Sl) : wipeS sl [] = sl := id rfl
@[simp] theorem x_wipe1 (sl : Sl) (v : Nat) (vs : List Nat) : wipeS sl (v :: vs) = (wipeS sl vs).set v none := id rfl
/-! what is typed, as data -/
section
variable (c : Cty) (s : Stt) (k : Sky) (z : Std) (a : Arc) (n : Nat) (t : DGs) (sl : Sl) (cs : Cs)
@[simp] theorem i_C0 : idxT (eC c) (.int 0) = some (.tuple (c.js.map .str)) := id rfl
@[simp] theorem i_C1 : idxT (eC c) (.int 1) = some (.tuple (c.ss.map eS)) := id rfl
@[simp] theorem i_C2 : idxT (eC c) (.int 2) = some (.tuple (c.ps.map eP)) := id rfl
@[simp] theorem i_C3 : idxT (eC c) (.int 3) = some (.tuple [.int c.day, .int c.late, .int c.falls]) := id rfl
@[simp] theorem i_S0 : idxT (eS s) (.int 0) = some (.str s.nm) := id rfl
@[simp] theorem i_S1 : idxT (eS s) (.int 1) = some (.str s.one) := id rfl
@[simp] theorem i_S2 : idxT (eS s) (.int 2) = some (.str s.oth) := id rfl
@[simp] theorem i_S3 : idxT (eS s) (.int 3) = some (.int s.go) := id rfl
@[simp] theorem i_S4 : idxT (eS s) (.int 4) = some (.int s.wk) := id rfl
@[simp] theorem i_S5 : idxT (eS s) (.int 5) = some (.int s.lim) := id rfl
@[simp] theorem i_S6 : idxT (eS s) (.int 6) = some (.tuple (s.hrs.map eH)) := id rfl
@[simp] theorem i_K0 : idxT (eK k) (.int 0) = some (.str k.first) := id rfl
@[simp] theorem i_K1 : idxT (eK k) (.int 1) = some (.tuple (k.sts.map eSt)) := id rfl
@[simp] theorem i_A0 : idxT (eA a) (.int 0) = some (.str a.1) := id rfl
@[simp] theorem i_A1 : idxT (eA a) (.int 1) = some (.tuple (a.2.map .str)) := id rfl
@[simp] theorem i_Z0 : idxT (eZ z) (.int 0) = some (.int z.time) := id rfl
@[simp] theorem i_Z1 : idxT (eZ z) (.int 1) = some (.str z.state) := id rfl
@[simp] theorem i_Z2 : idxT (eZ z) (.int 2) = some (.tuple (z.snow.map .int)) := id rfl
@[simp] theorem i_Z3 : idxT (eZ z) (.int 3) = some (.tuple (z.pls.map ePl)) := id rfl
@[simp] theorem i_Z4 : idxT (eZ z) (.int 4) = some (.int z.fallen) := id rfl
@[simp] theorem i_3 (x : T) (xs : List T) : idxT (.tuple (x :: xs)) (.int 0) = some x := by simp [idxT, atI, ixN]
@[simp] theorem i_r0 (x y z : T) : idxT (.tuple [x, y, z]) (.int 1) = some y := id rfl
@[simp] theorem i_r1 (x y z : T) : idxT (.tuple [x, y, z]) (.int 2) = some z := id rfl
@[simp] theorem i_r2 (x y : T) : idxT (.tuple [x, y]) (.int 1) = some y := id rfl
end
end Mi
set_option Elab.async false
set_option linter.all false
set_option autoImplicit false
set_option maxRecDepth 100000
set_option maxHeartbeats 1000000
namespace Mi
open PySem PySem.Spec PyProof.Rows L2
/-! ### what is small and low -/
structure Cok (c : Cty) : Prop where
  js : ∀ j ∈ c.js, Low j
  ss : ∀ s ∈ c.ss, Low s.nm ∧ Low s.one ∧ Low s.oth
  ns : c.ss.length ≤ 20
  np : c.ps.length ≤ 4
def Pok : Pl → Prop
  | .at_ j => Low j
  | .on s j _ _ => Low s ∧ Low j
  | .down => True
structure Zok (z : Std) : Prop where
  st : Low z.state
  pl : ∀ p ∈ z.pls, Pok p
  np : z.pls.length ≤ 4
  ns : z.snow.length ≤ 20
def Ook : Ord → Prop
  | none => True
  | some (n, _) => Low n
/-! lists of four to seven -/
section
variable (x0 x1 x2 x3 x4 x5 x6 : T)
@[simp] theorem i41 : idxT (.tuple [x0, x1, x2, x3]) (.int 1) = some x1 := rfl
@[simp] theorem i42 : idxT (.tuple [x0, x1, x2, x3]) (.int 2) = some x2 := rfl
@[simp] theorem i43 : idxT (.tuple [x0, x1, x2, x3]) (.int 3) = some x3 := rfl
@[simp] theorem i51 : idxT (.tuple [x0, x1, x2, x3, x4]) (.int 1) = some x1 := rfl
@[simp] theorem i52 : idxT (.tuple [x0, x1, x2, x3, x4]) (.int 2) = some x2 := rfl
@[simp] theorem i53 : idxT (.tuple [x0, x1, x2, x3, x4]) (.int 3) = some x3 := rfl
@[simp] theorem i54 : idxT (.tuple [x0, x1, x2, x3, x4]) (.int 4) = some x4 := rfl
@[simp] theorem cut5 : sliceT (.tuple [x0, x1, x2, x3, x4]) none (some 4) = some (.tuple [x0, x1, x2, x3]) := rfl
end
@[simp] theorem cutS (s : Stt) : sliceT (eS s) (some 1) (some 3) = some (.tuple [.str s.one, .str s.oth]) := rfl
@[simp] theorem big1 (n : Nat) (h : n ≤ 1000) : (n ≤ sizeLine) = True := by
  have : (1000 : Nat) ≤ sizeLine := by decide +kernel
  simp; omega
@[simp] theorem sz0 : (0 < sizeLine) = True := by simp only [eq_iff_iff, iff_true]; decide +kernel
@[simp] theorem sz1 : (1 ≤ sizeLine) = True := by simp only [eq_iff_iff, iff_true]; decide +kernel
@[simp] theorem sz2 : (2 ≤ sizeLine) = True := by simp only [eq_iff_iff, iff_true]; decide +kernel
@[simp] theorem sz3 : (3 ≤ sizeLine) = True := by simp only [eq_iff_iff, iff_true]; decide +kernel
@[simp] theorem sz4 : (4 ≤ sizeLine) = True := by simp only [eq_iff_iff, iff_true]; decide +kernel
@[simp] theorem sz5 : (5 ≤ sizeLine) = True := by simp only [eq_iff_iff, iff_true]; decide +kernel
@[simp] theorem sz6 : (6 ≤ sizeLine) = True := by simp only [eq_iff_iff, iff_true]; decide +kernel
@[simp] theorem sz7 : (7 ≤ sizeLine) = True := by simp only [eq_iff_iff, iff_true]; decide +kernel
theorem sz_of {n : Nat} (h : n ≤ 16777216) : n ≤ sizeLine := by
  have : sizeLine = 16777216 := by decide +kernel
  omega
/-! names -/
@[simp] theorem n_at_on : (Str.ofString "at" = Str.ofString "on") = False := by decide +kernel
@[simp] theorem n_at_down : (Str.ofString "at" = Str.ofString "down") = False := by decide +kernel
@[simp] theorem n_on_at : (Str.ofString "on" = Str.ofString "at") = False := by decide +kernel
@[simp] theorem n_on_down : (Str.ofString "on" = Str.ofString "down") = False := by decide +kernel
@[simp] theorem n_down_at : (Str.ofString "down" = Str.ofString "at") = False := by decide +kernel
@[simp] theorem n_down_on : (Str.ofString "down" = Str.ofString "on") = False := by decide +kernel
theorem low_at : Low "at" := by unfold Low; decide +kernel
theorem low_on : Low "on" := by unfold Low; decide +kernel
theorem low_down : Low "down" := by unfold Low; decide +kernel
theorem low_zz : Low "zz" := by unfold Low; decide +kernel
/-! shapes -/
theorem lay_pl {n : Nat} {p : Pl} (h : Pok p) : Lay (n + 1) (ePl p) := by
  cases p with
  | at_ j => exact lay_tup (by simp; exact ⟨lay_str low_at, lay_str h⟩)
  | on s j w l => exact lay_tup (by simp; exact ⟨lay_str low_on, lay_str h.1, lay_str h.2, lay_bool, lay_int⟩)
  | down => exact lay_tup (by simp; exact lay_str low_down)
theorem lay_ord {n : Nat} {o : Ord} (h : Ook o) : Lay (n + 1) (eO o) := by
  cases o with
  | none => exact lay_none
  | some p => obtain ⟨s, w⟩ := p; exact lay_tup (by simp; exact ⟨lay_str h, lay_bool⟩)
theorem lay_os {n : Nat} {os : List Ord} (h : ∀ o ∈ os, Ook o) : Lay (n + 2) (eOs os) := lay_tup (lay_map fun o ho => lay_ord (h o ho))
theorem layZ {n : Nat} {z : Std} (h : Zok z) : Lay (n + 3) (eZ z) := by
  refine lay_tup ?_
  simp
  exact ⟨lay_int, lay_str h.st, lay_tup (lay_map fun _ _ => lay_int), lay_tup (lay_map fun p hp => lay_pl (h.pl p hp)), lay_int⟩
theorem lay_bs {n : Nat} {bs : List Bool} : Lay (n + 1) (eBs bs) := lay_tup (lay_map fun _ _ => lay_bool)
theorem lay_eN {n : Nat} {b : Option Nat} : Lay n (eN b) := by cases b; exact lay_none; exact lay_int
theorem layW {n : Nat} {a : Ans} : Lay (n + 2) (eW a) := lay_tup (by simp; exact ⟨lay_int, lay_bs, lay_eN⟩)
theorem layWZ {n : Nat} {p : Ans × Std} (h : Zok p.2) : Lay (n + 4) (eWZ p) := lay_tup (by simp; exact ⟨layW, layZ h⟩)
/-! typed and raw -/
@[simp] theorem iter_map {α : Type} (f : α → T) (xs : List α) : seqT (.tuple (xs.map f)) = some (xs.map f) := rfl
theorem enum_map {α : Type} (f : α → T) (xs : List α) : enumT (xs.map f) = xs.zipIdx.map fun p => .tuple [.int (p.2 : Nat), f p.1] := by
  apply List.ext_getElem?
  intro i
  unfold enumT
  simp only [List.getElem?_map, List.length_map, List.getElem?_zipIdx]
  by_cases h : i < xs.length
  · simp [h]
  · simp [h]
theorem zip_map {α β : Type} (f : α → T) (g : β → T) (xs : List α) (ys : List β) : zipT (xs.map f) (ys.map g) = (xs.zip ys).map fun p => .tuple [f p.1, g p.2] := by
  unfold zipT
  rw [List.zip_map, List.map_map]
  rfl
theorem prod_snoc {α : Type} (chs : List (List α)) (ch : List α) : prod (chs ++ [ch]) = (prod chs).flatMap fun r => ch.map fun x => r ++ [x] := by
  unfold prod
  rw [List.foldl_append]
  rfl
theorem rev_ind {α : Type} {P : List α → Prop} (h0 : P []) (h1 : ∀ xs x, P xs → P (xs ++ [x])) (xs : List α) : P xs := by
  have : ∀ ys : List α, P ys.reverse := by
    intro ys
    induction ys with
    | nil => exact h0
    | cons y ys ih => rw [List.reverse_cons]; exact h1 _ _ ih
  rw [← List.reverse_reverse xs]
  exact this _
theorem prod_len {α : Type} (m : Nat) (chs : List (List α)) : (∀ ch ∈ chs, ch.length ≤ m) → (prod chs).length ≤ m ^ chs.length := by
  induction chs using rev_ind with
  | h0 => simp [prod]
  | h1 xs x ih =>
    intro h
    rw [prod_snoc, List.length_append, List.length_singleton, Nat.pow_succ]
    have h1 := ih fun ch hc => h ch (by simp [hc])
    have h2 := h x (by simp)
    have : ∀ rows : List (List α), (rows.flatMap fun r => x.map fun y => r ++ [y]).length = rows.length * x.length := by
      intro rows
      induction rows with
      | nil => simp
      | cons r rs ih => simp [ih, Nat.add_mul]; omega
    rw [this]
    exact Nat.mul_le_mul h1 h2
theorem prod_mem {α : Type} (chs : List (List α)) : ∀ r ∈ prod chs, r.length = chs.length ∧ ∀ p ∈ chs.zip r, p.2 ∈ p.1 := by
  induction chs using rev_ind with
  | h0 => intro r hr; simp [prod] at hr; subst hr; simp
  | h1 xs x ih =>
    intro r hr
    rw [prod_snoc] at hr
    simp only [List.mem_flatMap, List.mem_map] at hr
    obtain ⟨q, hq, y, hy, rfl⟩ := hr
    obtain ⟨h1, h2⟩ := ih q hq
    refine ⟨by simp [h1], ?_⟩
    rw [List.zip_append h1.symm]
    intro p hp
    simp only [List.mem_append, List.zip_cons_cons, List.zip_nil_left, List.mem_singleton] at hp
    rcases hp with hp | hp
    · exact h2 p hp
    · subst hp; exact hy
end Mi
set_option Elab.async false
set_option linter.all false
set_option autoImplicit false
set_option maxRecDepth 100000
set_option maxHeartbeats 1000000
namespace Mi
open PySem PySem.Spec PyProof.Rows L2
/-! ### what the program's defs come to -/
def tInt : T → Bool
  | .int _ => true
  | _ => false
@[simp] theorem tInt_i (i : Int) : tInt (.int i) = true := rfl
@[simp] theorem tInt_b (b : Option Nat) : tInt (eN b) = !b.isNone := by cases b <;> rfl
@[simp] theorem e_is_integer (t : T) (cs : Cs) : F_is_integer [.t t] cs = .ok (.t (.bool (tInt t))) cs := by
  apply run_go
  cases t <;> simp [tyName, tInt]
@[simp] theorem e_is_within (t : T) (lo hi : Int) (cs : Cs) : F_is_within [.t t, .t (.int lo), .t (.int hi)] cs = .ok (.t (.bool (match t with | .int v => decide (lo ≤ v) && decide (v ≤ hi) | _ => false))) cs := by
  apply run_go
  cases t <;> simp [tInt]
  rename_i i
  by_cases h : lo ≤ i <;> simp [h]
@[simp] theorem e_is_row (t : T) (lo hi : Int) (cs : Cs) : F_is_row [.t t, .t (.int lo), .t (.int hi)] cs = .ok (.t (.bool (match t with | .tuple ts => decide (lo ≤ ts.length) && decide ((ts.length : Int) ≤ hi) | _ => false))) cs := by
  apply run_go
  cases t <;> simp [tyName]
  rename_i ts
  by_cases h : lo ≤ ts.length <;> simp [h]
theorem e_known_l {x : Str} {ys : List Str} (hx : Low x) (hy : ∀ y ∈ ys, Low y) (cs : Cs) : F_is_known [.t (.str x), .t (.list (ys.map .str))] cs = .ok (.t (.bool (decide (x ∈ ys)))) cs := by
  apply run_go
  simp [tyName, inO_strs hx hy]
theorem e_known_t {x : Str} {ys : List Str} (hx : Low x) (hy : ∀ y ∈ ys, Low y) (cs : Cs) : F_is_known [.t (.str x), .t (.tuple (ys.map .str))] cs = .ok (.t (.bool (decide (x ∈ ys)))) cs := by
  apply run_go
  simp [tyName, inO_strsT hx hy]
theorem e_known_2 {x a b : Str} (hx : Low x) (ha : Low a) (hb : Low b) (cs : Cs) : F_is_known [.t (.str x), .t (.tuple [.str a, .str b])] cs = .ok (.t (.bool (decide (a = x) || decide (b = x)))) cs := by
  apply run_go
  simp [tyName, inO_two hx ha hb]
theorem chs_snoc (j : Str) (d : List Stt) (x : Stt) : chs j (d ++ [x]) = chs j d ++ if x.has j then [some (x.nm, false), some (x.nm, true)] else [] := by simp [chs]
theorem chs_len (j : Str) (d : List Stt) : (chs j d).length ≤ 1 + 2 * d.length := by
  simp only [chs, List.length_cons]
  induction d with
  | nil => simp
  | cons s ss ih =>
    simp only [List.flatMap_cons, List.length_append, List.length_cons]
    split <;> simp at ih ⊢ <;> omega
theorem choices_len (c : Cty) (p : Pl) : (choices c p).length ≤ 1 + 2 * c.ss.length := by
  cases p with
  | at_ j => exact chs_len j c.ss
  | on s j w l => simp [choices]
  | down => simp [choices]
theorem comp_rows {α : Type} {c : Cs} {slt : Sl} {i1 i2 : Nat} {rows : List (List α)} {ch : List α} {f : α → T} {it1 it2 : DI} {e : D SV} {s1 : List α → Sl} {s2 : List α → α → Sl} {w1 w2 : List Nat}
    (h1 : it1 slt c = .ok (rows.map (fun r => .tuple (r.map f)), none) c) (hw1 : ∀ r, (wipeS slt w1).set i1 (some (.t (.tuple (r.map f)))) = s1 r)
    (h2 : ∀ r d, it2 (s1 r) d = .ok (ch.map f, none) d) (hw2 : ∀ r x, (wipeS (s1 r) w2).set i2 (some (.t (f x))) = s2 r x)
    (h3 : ∀ r ∈ rows, ∀ x ∈ ch, ∀ d, e (s2 r x) d = .ok (.t (.tuple ((r ++ [x]).map f))) d) (hl : (rows.flatMap fun r => ch.map fun x => r ++ [x]).length ≤ sizeLine) :
    dCompM ⟨it1, tgName i1, dYes, w1⟩ [⟨it2, tgName i2, dYes, w2⟩] e slt c = .ok (.t (.list ((rows.flatMap fun r => ch.map fun x => r ++ [x]).map fun r => .tuple (r.map f)))) c := by
  have e0 : ((rows.flatMap fun r => ch.map fun x => r ++ [x]).map fun r => (.tuple (r.map f) : T)) = rows.flatMap fun r => ch.flatMap fun x => [.tuple ((r ++ [x]).map f)] := by
    rw [List.map_flatMap]
    congr 1
    funext r
    rw [List.map_map]
    clear h2 h3 hl
    induction ch with
    | nil => simp
    | cons x ch ih => simp only [List.map_cons, List.flatMap_cons, ih]; rfl
  rw [e0]
  refine dCompM_adds (cd := ⟨it1, tgName i1, dYes, w1⟩) rows (fun r => .tuple (r.map f)) _ h1 ?_ (by rw [← e0]; simpa using hl)
  intro r hr
  refine ⟨s1 r, fun acc => by simp only [x_tgName, hw1], fun acc => rfl, ?_⟩
  refine inL_adds ch (enc := f) (fun acc => h2 r _) ?_
  intro x hx
  refine ⟨s2 r x, fun acc => by simp only [x_tgName, hw2], fun acc => rfl, ?_⟩
  exact adds_end fun acc => h3 r hr x hx _
end Mi
set_option Elab.async false
set_option linter.all false
set_option autoImplicit false
set_option maxRecDepth 100000
set_option maxHeartbeats 1000000
namespace Mi
open PySem PySem.Spec PyProof.Rows L2
@[simp] theorem so_none : eSo none = .none := rfl
@[simp] theorem so_some (s : Stt) : eSo (some s) = eS s := rfl
@[simp] theorem isN_S (s : Stt) : isN (eS s) .none = some (.bool false) := rfl
@[simp] theorem notN_S (s : Stt) : notN (eS s) .none = some (.bool true) := rfl
theorem streetOf_mem {c : Cty} {n : Str} {s : Stt} (h : streetOf c n = some s) : s ∈ c.ss ∧ s.nm = n := by
  unfold streetOf at h
  exact ⟨List.mem_of_find?_eq_some h, by simpa using List.find?_some h⟩
@[simp] theorem ty_tup (ts : List T) : tyName (.tuple ts) = "tuple" := rfl
theorem areOrders_zip {c : Cty} {z : Std} {os : List Ord} (h : areOrders c z os = true) : os.length = z.pls.length ∧ ∀ p ∈ z.pls.zip os, canBe c p.1 p.2 = true := by
  unfold areOrders at h
  simp at h
  exact ⟨h.1, fun p hp => h.2 p.1 p.2 hp⟩
theorem Cok.low {c : Cty} (h : Cok c) : ∀ s ∈ c.ss, Low s.nm := fun s hs => (h.ss s hs).1
theorem comings_len (c : Cty) (p : Pl) : (comings c p).length ≤ 2 := by
  unfold comings
  split
  · split
    · simp
    · split <;> simp
  · simp
end Mi
set_option Elab.async false
set_option linter.all false
set_option autoImplicit false
set_option maxRecDepth 100000
set_option maxHeartbeats 1000000
namespace Mi
open PySem PySem.Spec PyProof.Rows L2
theorem inL_name {α : Type} {base : Cs} {it : DI} {i : Nat} {vs : List Nat} {cds : List Cd} {e : D SV} {sl : Sl} {g : α → List T} (xs : List α) (enc : α → T) (hit : ∀ acc, it sl (base ++ [.lst acc]) = .ok (xs.map enc, none) (base ++ [.lst acc]))
    (h : ∀ x ∈ xs, Adds base (inL e base.length cds) ((wipeS sl vs).set i (some (.t (enc x)))) (g x)) : Adds base (inL e base.length (⟨it, tgName i, dYes, vs⟩ :: cds)) sl (xs.flatMap g) :=
  inL_adds (cd := ⟨it, tgName i, dYes, vs⟩) xs hit fun x hx => ⟨_, fun acc => rfl, fun acc => rfl, h x hx⟩
theorem dCompM_name {α : Type} {cs : Cs} {it : DI} {i : Nat} {vs : List Nat} {cds : List Cd} {e : D SV} {sl : Sl} (xs : List α) (enc : α → T) (g : α → List T) (hit : it sl cs = .ok (xs.map enc, none) cs)
    (h : ∀ x ∈ xs, Adds cs (inL e cs.length cds) ((wipeS sl vs).set i (some (.t (enc x)))) (g x)) (hl : (xs.flatMap g).length ≤ sizeLine) : dCompM ⟨it, tgName i, dYes, vs⟩ cds e sl cs = .ok (.t (.list (xs.flatMap g))) cs :=
  dCompM_adds (cd := ⟨it, tgName i, dYes, vs⟩) xs enc g hit (fun x hx => ⟨_, fun acc => rfl, fun acc => rfl, h x hx⟩) hl
@[simp] theorem x_takesTk {α : Type} (xs : List α) (f : α → T) (n : Nat) (rs : List SV) (cs : Cs) : takes ((xs.map (SV.t ∘ f)).take n ++ rs) cs = (match takes rs cs with
      | some (us, c2) => some ((xs.map f).take n ++ us, c2)
      | none => none) := by rw [← List.map_take, x_takesM, List.map_take]; first | done | rfl
@[simp] theorem x_takesDr {α : Type} (xs : List α) (f : α → T) (n : Nat) (cs : Cs) : takes ((xs.map (SV.t ∘ f)).drop n) cs = some ((xs.map f).drop n, cs) := by
  rw [← List.map_drop]
  have h := x_takesM (rs := []) (cs := cs) (xs := xs.drop n) (f := f)
  simp only [x_takes0, List.append_nil] at h
  rw [h, List.map_drop]
theorem cut_to (ts : List T) (n : Nat) : cutT ts none (some (n : Int)) = ts.take n := by
  unfold cutT
  rw [HT.sIx_none, HT.sIx_nat]
  simp
  first | done | (rw [List.take_eq_take_iff]; omega)
theorem cut_from (ts : List T) (n : Nat) : cutT ts (some (n : Int)) none = ts.drop n := by
  unfold cutT
  rw [HT.sIx_none, HT.sIx_nat]
  by_cases h : n ≤ ts.length
  · rw [Nat.min_eq_left h]
    exact List.take_of_length_le (by simp)
  · rw [Nat.min_eq_right (by omega), List.drop_of_length_le (Nat.le_refl _), List.drop_of_length_le (by omega)]
    simp
@[simp] theorem sl_to (ts : List T) (n : Nat) : sliceT (.tuple ts) none (some (n : Int)) = some (.tuple (ts.take n)) := by simp [sliceT, cut_to]
@[simp] theorem sl_from (ts : List T) (n : Nat) : sliceT (.tuple ts) (some ((n : Int) + 1)) none = some (.tuple (ts.drop (n + 1))) := by
  have := cut_from ts (n + 1)
  simp [sliceT]
  exact this
def brk (d : List (Pl × Nat)) : List (Option Nat) := none :: (d.filter fun p => !isDown p.1).map fun p => some p.2
theorem brk_snoc (d : List (Pl × Nat)) (x : Pl × Nat) : brk (d ++ [x]) = brk d ++ if isDown x.1 then [] else [some x.2] := by
  unfold brk
  rw [List.filter_append]
  cases h : isDown x.1 <;> simp [h]
theorem brk_len (d : List (Pl × Nat)) : (brk d).length ≤ d.length + 1 := by
  unfold brk
  simp
  exact List.length_filter_le _ _
@[simp] theorem neDown (p : Pl) : (idxT (ePl p) (.int 0)).bind (fun t => neO t (.str "down")) = some (.bool (!isDown p)) := by cases p <;> simp [ePl, isDown]
theorem breaks_len (c : Cty) (z : Std) : (breaks c z).length ≤ z.pls.length + 1 := by
  have := brk_len z.pls.zipIdx
  unfold breaks
  split
  · simpa [brk] using this
  · simp
theorem ticks_fst (c : Cty) (k : Sky) (z : Std) (os : List Ord) : ((ticks c k z os).map (eW ∘ (·.1))) = (List.range (arcsOf k z.state).length).flatMap fun a => (allComings c (gone c z os)).flatMap fun bs => (breaks c z).flatMap fun b => [eW (a, bs, b)] := by
  unfold ticks
  rw [List.map_flatMap]
  rw [show List.range (arcsOf k z.state).length = (arcsOf k z.state).zipIdx.map (·.2) by simp [List.zipIdx_map_snd, List.range_eq_range']]
  rw [List.flatMap_map]
  congr 1
  funext a
  rw [List.map_flatMap]
  congr 1
  funext bs
  rw [List.map_map]
  induction breaks c z with
  | nil => rfl
  | cons b bb ih => simp only [List.map_cons, List.flatMap_cons, ih]; rfl
theorem gone_len {c : Cty} {z : Std} {os : List Ord} (hz : Zok z) : (gone c z os).length ≤ 4 := by
  have := hz.np
  unfold gone
  simp
  omega
theorem flat_len {α β : Type} (m : Nat) (f : α → List β) (xs : List α) (h : ∀ x ∈ xs, (f x).length ≤ m) : (xs.flatMap f).length ≤ xs.length * m := by
  induction xs with
  | nil => simp
  | cons x xs ih =>
    have h1 := h x (by simp)
    have h2 := ih fun y hy => h y (by simp [hy])
    rw [List.flatMap_cons, List.length_append, List.length_cons, Nat.add_mul]
    omega
theorem comings_all_len {c : Cty} {ps : List Pl} (h : ps.length ≤ 4) : (allComings c ps).length ≤ 16 := by
  have h1 := prod_len 2 (ps.map (comings c)) (by intro ch hch; rw [List.mem_map] at hch; obtain ⟨p, _, rfl⟩ := hch; exact comings_len c p)
  rw [List.length_map] at h1
  have h3 : 2 ^ ps.length ≤ 2 ^ 4 := Nat.pow_le_pow_right (by decide) h
  exact Nat.le_trans h1 h3
theorem ticks_len {c : Cty} {k : Sky} {z : Std} {os : List Ord} (hz : Zok z) (hk : (arcsOf k z.state).length ≤ 12) : (ticks c k z os).length ≤ 960 := by
  have h1 := comings_all_len (c := c) (gone_len (c := c) (os := os) hz)
  have h2 := breaks_len c z
  have hn := hz.np
  unfold ticks
  refine Nat.le_trans (flat_len 80 _ _ fun a _ => ?_) ?_
  · refine Nat.le_trans (flat_len 5 _ _ fun bs _ => ?_) ?_
    · rw [List.length_map]; omega
    · omega
  · rw [List.length_zipIdx]; omega
theorem rng1_nat {a : D SV} {sl : Sl} {cs : Cs} {n : Nat} (h : a sl cs = .ok (.t (.int (n : Nat))) cs) (hn : n ≤ 1000) : dRng1 a sl cs = .ok ((List.range n).map fun i => .int (i : Nat), none) cs := by
  rw [x_rng1, h, x_bind_ok, x_res]
  have q1 : -(2 ^ 62) ≤ (n : Int) := by omega
  have q2 : (n : Int) < 2 ^ 62 := by omega
  simp only
  rw [if_pos ⟨q1, q2⟩]
  unfold rngT
  congr 2
  simp
end Mi
set_option Elab.async false
set_option linter.all false
set_option autoImplicit false
set_option maxRecDepth 100000
set_option maxHeartbeats 1000000
namespace Mi
open PySem PySem.Spec PyProof.Rows L2
@[simp] theorem isN_b (b : Option Nat) : isN (eN b) .none = some (.bool b.isNone) := by cases b <;> rfl
@[simp] theorem notN_b (b : Option Nat) : notN (eN b) .none = some (.bool (!b.isNone)) := by cases b <;> rfl
theorem any_bools (b : Bool) (bs : List Bool) : (bs.map PyData.bool).any (fun z => PyData.eqv z (.bool b)) = decide (b ∈ bs) := by
  induction bs with
  | nil => simp
  | cons y ys ih => rw [List.map_cons, List.any_cons, ih]; cases b <;> cases y <;> simp [PyData.eqv]
theorem inO_bools (b : Bool) (bs : List Bool) : inO (.bool b) (.tuple (bs.map .bool)) = some (.bool (decide (b ∈ bs))) := by
  have h1 : SeqAt.shaped (PyData.bool b) = true := (lay_bool (n := 0)).sh
  have h2 : SeqAt.shaped (PyData.tuple (bs.map .bool)) = true := (lay_tup (n := 0) (lay_map fun _ _ => lay_bool)).sh
  simp only [inO, hasT, h1, h2, and_self, if_true, any_bools, Option.map_some]
theorem eqv_eN (a b : Option Nat) : PyData.eqv (eN a) (eN b) = decide (a = b) := by
  cases a <;> cases b <;> simp [eN, PyData.eqv]
  rename_i x y
  by_cases h : x = y
  · simp [h]
  · have : ¬ (x : Int) = y := by omega
    simp [h, this]
theorem any_eN (b : Option Nat) (bs : List (Option Nat)) : (bs.map eN).any (fun z => PyData.eqv z (eN b)) = decide (b ∈ bs) := by
  induction bs with
  | nil => simp
  | cons y ys ih =>
    rw [List.map_cons, List.any_cons, ih, eqv_eN]
    by_cases h : y = b
    · subst h; simp
    · have : ¬b = y := fun e => h e.symm
      simp [h, this]
theorem inO_eN (b : Option Nat) (bs : List (Option Nat)) : inO (eN b) (.list (bs.map eN)) = some (.bool (decide (b ∈ bs))) := by
  have h1 : SeqAt.shaped (eN b) = true := (lay_eN (n := 0)).sh
  have h2 : SeqAt.shaped (PyData.list (bs.map eN)) = true := (lay_lst (n := 0) (lay_map fun _ _ => lay_eN)).sh
  have h3 : hasT (eN b) (.list (bs.map eN)) = some (decide (b ∈ bs)) := by
    cases b with
    | none => simp only [eN] at h1 ⊢; simp only [hasT, h1, h2, and_self, if_true]; rw [← any_eN]; rfl
    | some n => simp only [eN] at h1 ⊢; simp only [hasT, h1, h2, and_self, if_true]; rw [← any_eN]; rfl
  simp only [inO, h3, Option.map_some]
@[simp] theorem x_allM {α : Type} (f : α → Bool) (xs : List α) : allT (.list (xs.map fun x => .bool (f x))) = some (.bool (xs.all f)) := by
  have := x_all (xs.map f)
  rw [List.map_map] at this
  have e : (xs.map f).all id = xs.all f := by rw [List.all_map]; rfl
  rw [e] at this
  exact this
@[simp] theorem x_anyM {α : Type} (f : α → Bool) (xs : List α) : anyT (.list (xs.map fun x => .bool (f x))) = some (.bool (xs.any f)) := by
  have := x_any (xs.map f)
  rw [List.map_map] at this
  have e : (xs.map f).any id = xs.any f := by rw [List.any_map]; rfl
  rw [e] at this
  exact this
/-! the answers that are told -/
theorem comings_on {c : Cty} {p : Pl} (h : true ∈ comings c p) : isOn p = true := by
  cases p with
  | on s j w l => rfl
  | at_ j => simp [comings] at h
  | down => simp [comings] at h
theorem comings_comeOk {c : Cty} {g : List Pl} {bs : List Bool} (h : ∀ p ∈ g.zip bs, p.2 ∈ comings c p.1) : comeOk g bs := by
  rintro ⟨p, b⟩ hp hb
  have := h _ hp
  simp only at hb this ⊢
  subst hb
  exact comings_on this
theorem zip_map_left {α β γ : Type} (f : α → β) (xs : List α) (ys : List γ) : (xs.map f).zip ys = (xs.zip ys).map fun p => (f p.1, p.2) := by
  rw [List.zip_map_left]; rfl
theorem allComings_mem {c : Cty} {g : List Pl} {bs : List Bool} (h : bs ∈ allComings c g) : bs.length = g.length ∧ ∀ p ∈ g.zip bs, p.2 ∈ comings c p.1 := by
  obtain ⟨h1, h2⟩ := prod_mem _ _ h
  rw [List.length_map] at h1
  refine ⟨h1, fun p hp => ?_⟩
  rw [zip_map_left] at h2
  exact h2 (comings c p.1, p.2) (List.mem_map.mpr ⟨p, hp, rfl⟩)
theorem breaks_mem {c : Cty} {z : Std} {n : Nat} (h : some n ∈ breaks c z) : n < z.pls.length ∧ z.fallen < c.falls ∧ ∃ p, z.pls[n]? = some p ∧ isDown p = false := by
  unfold breaks at h
  split at h
  · rename_i hf
    simp at h
    obtain ⟨p, hp, hd⟩ := h
    rw [List.mem_zipIdx_iff_getElem?] at hp
    exact ⟨(List.getElem?_eq_some_iff.mp hp).1, hf, p, hp, hd⟩
  · simp at h
theorem goneLen {c : Cty} {z : Std} {os : List Ord} (hb : areOrders c z os = true) : (gone c z os).length = z.pls.length := by
  have := (areOrders_zip hb).1
  simp [gone]
  omega
structure Kok (k : Sky) : Prop where
  st : ∀ x ∈ k.sts, Low x.1 ∧ x.2.length ≤ 12 ∧ ∀ a ∈ x.2, Low a.1 ∧ ∀ f ∈ a.2, Low f
  ns : k.sts.length ≤ 30
theorem arcsOf_mem {k : Sky} {n : Str} {a : Arc} (h : a ∈ arcsOf k n) : ∃ x ∈ k.sts, x.1 = n ∧ a ∈ x.2 := by
  unfold arcsOf at h
  cases e : k.sts.find? (fun x => decide (x.1 = n)) with
  | none => rw [e] at h; cases h
  | some x => rw [e] at h; exact ⟨x, List.mem_of_find?_eq_some e, by simpa using List.find?_some e, h⟩
theorem Kok.arcs {k : Sky} (h : Kok k) (n : Str) : (arcsOf k n).length ≤ 12 ∧ ∀ a ∈ arcsOf k n, Low a.1 ∧ ∀ f ∈ a.2, Low f := by
  refine ⟨?_, fun a ha => ?_⟩
  · unfold arcsOf
    cases e : k.sts.find? (fun x => decide (x.1 = n)) with
    | none => simp
    | some x => exact (h.st x (List.mem_of_find?_eq_some e)).2.1
  · obtain ⟨x, h1, _, h3⟩ := arcsOf_mem ha
    exact (h.st x h1).2.2 a h3
theorem setOut_ok {c : Cty} {p : Pl} {o : Ord} (hc : Cok c) (hp : Pok p) : Pok (setOut c p o) := by
  cases o with
  | none => cases p <;> exact hp
  | some q =>
    obtain ⟨n, w⟩ := q
    simp only [setOut]
    cases h : streetOf c n with
    | none => exact hp
    | some s =>
      have hs := hc.ss s (streetOf_mem h).1
      cases p with
      | at_ j =>
        refine ⟨hs.1, ?_⟩
        unfold Stt.far
        split
        · exact hs.2.2
        · exact hs.2.1
      | on s j w l => exact hp
      | down => exact hp
theorem gone_ok {c : Cty} {z : Std} {os : List Ord} (hc : Cok c) (hz : Zok z) : ∀ p ∈ gone c z os, Pok p := by
  intro p hp
  unfold gone at hp
  rw [List.mem_map] at hp
  obtain ⟨q, hq, rfl⟩ := hp
  exact setOut_ok hc (hz.pl q.1 (List.of_mem_zip hq).1)
theorem isAnswer_get {c : Cty} {k : Sky} {z : Std} {os : List Ord} {a : Ans} (h : isAnswer c k z os a = true) : (∃ r, (arcsOf k z.state)[a.1]? = some r) ∧ a.2.1.length = (gone c z os).length ∧ (∀ p ∈ (gone c z os).zip a.2.1, p.2 ∈ comings c p.1) ∧ a.2.2 ∈ breaks c z := by
  unfold isAnswer at h
  simp only [Bool.and_eq_true, decide_eq_true_eq, List.all_eq_true] at h
  obtain ⟨⟨⟨h1, h2⟩, h3⟩, h4⟩ := h
  refine ⟨?_, h2, h3, h4⟩
  have : a.1 < (arcsOf k z.state).length := by omega
  exact ⟨_, List.getElem?_eq_getElem this⟩
@[simp] theorem i_nat (ts : List T) (n : Nat) : idxT (.tuple ts) (.int (n : Nat)) = ts[n]? := by
  simp only [idxT, atI, ixN]
  rw [if_pos (by omega)]
  by_cases h : n < ts.length
  · rw [if_pos (by omega)]; simp
  · rw [if_neg (by omega)]; simp; omega
end Mi
set_option Elab.async false
set_option linter.all false
set_option autoImplicit false
set_option maxRecDepth 100000
set_option maxHeartbeats 1000000
namespace Mi
open PySem PySem.Spec PyProof.Rows L2
/-! ### followers -/
def ways (c : Cty) (z : Std) (g : List Pl) : List (List Bool × Option Nat) := (allComings c g).flatMap fun bs => (breaks c z).map fun b => (bs, b)
theorem ticks_ways (c : Cty) (k : Sky) (z : Std) (os : List Ord) : ticks c k z os = (arcsOf k z.state).zipIdx.flatMap fun a => (ways c z (gone c z os)).map fun w => ((a.2, w.1, w.2), behind c z (gone c z os) a.1 w.1 w.2) := by
  unfold ticks ways
  congr 1
  funext a
  rw [List.map_flatMap]
  congr 1
  funext bs
  rw [List.map_map]
  rfl
def wayT (c : Cty) (z : Std) (g : List Pl) (w : List Bool × Option Nat) : T :=
  .tuple [eBs w.1, eN w.2, .tuple ((cleared c z.snow (cleanOf g w.1)).map .int), .tuple ((without (comeIn g w.1) w.2).map ePl), .int (z.fallen + if w.2.isNone then 0 else 1)]
theorem tgZ (z : Std) (t : DGs) (sl : Sl) (cs : Cs) : tgTup 5 t (.t (eZ z)) sl cs = t [.t (.int z.time), .t (.str z.state), .t (.tuple (z.snow.map .int)), .t (.tuple (z.pls.map ePl)), .t (.int z.fallen)] sl cs := rfl
theorem tgA (r : Arc) (t : DGs) (sl : Sl) (cs : Cs) : tgTup 2 t (.t (eA r)) sl cs = t [.t (.str r.1), .t (.tuple (r.2.map .str))] sl cs := rfl
theorem ways_len {c : Cty} {z : Std} {os : List Ord} (hz : Zok z) : (ways c z (gone c z os)).length ≤ 80 := by
  have h1 := comings_all_len (c := c) (gone_len (c := c) (os := os) hz)
  have h2 := breaks_len c z
  have hn := hz.np
  unfold ways
  refine Nat.le_trans (flat_len 5 _ _ fun bs _ => ?_) ?_
  · rw [List.length_map]; omega
  · omega
theorem mid_mem {α : Type} {xs d r : List α} {x : α} (e : xs = d ++ x :: r) : x ∈ xs := by rw [e]; simp
theorem pre_len {α β : Type} {xs d r : List α} {x : α} (e : xs = d ++ x :: r) (f : α → List β) : (d.flatMap f).length ≤ (xs.flatMap f).length := by rw [e, List.flatMap_append, List.length_append]; omega
theorem pre_len2 {α β : Type} {xs d r : List α} {x : α} (e : xs = d ++ x :: r) (f : α → List β) : (d.flatMap f).length + (f x).length ≤ (xs.flatMap f).length := by rw [e, List.flatMap_append, List.length_append, List.flatMap_cons, List.length_append]; omega
end Mi
set_option Elab.async false
set_option linter.all false
set_option autoImplicit false
set_option maxRecDepth 100000
set_option maxHeartbeats 1000000
namespace Mi
open PySem PySem.Spec PyProof.Rows L2
/-! ### the law's own rows, orders, ticks -/
noncomputable def rowB : DS := (dSeq (dAsg (dLst (dNil)) (tgName 3)) (dSeq (dFor (dIter (dVar 1)) (tgName 4) (dSeq (dAsg (dAdd (dVar 3) (dComp (dIter (dVar 2)) (tgName 5) (dYes) (dAdd (dVar 4) (dTup (dCons (dVar 5) (dNil)))) [5])) (tgName 3)) (dSkip))) (dSeq (dAsg (dVar 3) (tgName 1)) (dSkip))))
def rowsI {α : Type} (f : α → T) (s0 : SV) (cs0 : Cs) (d : List (List α)) (sl : Sl) (cs' : Cs) : Prop := cs' = cs0 ∧ ∃ u2 u3 u4 u5, sl = [some s0, some (.t (.list ((prod d).map fun r => .tuple (r.map f)))), u2, u3, u4, u5]
theorem rows_turn {α : Type} (f : α → T) (s0 : SV) (cs0 : Cs) (d : List (List α)) (x : List α) (sl : Sl) (cs' : Cs) (P : RS → Prop) (h : rowsI f s0 cs0 d sl cs') (hl : (prod (d ++ [x])).length ≤ 16777216) (hd : d.length ≤ 100) (hx : x.length ≤ 1000) :
    Go (rowsI f s0 cs0 (d ++ [x])) P (Turn (tgName 2) rowB (.list (x.map f)) sl cs') := by
  obtain ⟨rfl, ⟨u2, u3, u4, u5, rfl⟩⟩ := h
  unfold rowB
  simp
  refine seq_for (prod d) (fun r => .tuple (r.map f)) (fun d2 sl cs2 => cs2 = cs' ∧ ∃ u4 u5, sl = [some s0, some (.t (.list ((prod d).map fun r => .tuple (r.map f)))), some (.t (.list (x.map f))), some (.t (.list ((d2.flatMap fun r => x.map fun y => r ++ [y]).map fun r => .tuple (r.map f)))), u4, u5]) (by simp) ⟨rfl, ⟨_, _, by simp; exact ⟨rfl, rfl⟩⟩⟩ ?_ ?_
  · rintro d2 r q sl cs2 e ⟨rfl, ⟨u4, u5, rfl⟩⟩
    simp
    have hrl := (prod_mem _ r (mid_mem e)).1
    rw [dComp_map x f (fun y => .tuple ((r ++ [y]).map f))]
    · have h1 := pre_len2 e fun r => x.map fun y => r ++ [y]
      rw [List.length_map, ← prod_snoc] at h1
      generalize hA : (d2.flatMap fun r => x.map fun y => r ++ [y]) = A at *
      have h2 : A.length + x.length ≤ sizeLine := sz_of (by omega)
      have h3 : (List.map (fun r => (PyData.tuple (List.map f r))) A ++ List.map (fun y => PyData.tuple (List.map f r ++ [f y])) x) = ((A ++ x.map fun y => r ++ [y]).map fun r => .tuple (r.map f)) := by simp
      simp [h2]
    · simp
    · intro y hy d3 _ _
      have : r.length + 1 ≤ sizeLine := sz_of (by omega)
      simp [this]
    · exact sz_of (by omega)
  · rintro sl cs2 ⟨rfl, ⟨u4, u5, rfl⟩⟩
    rw [← prod_snoc]
    simp
    exact ⟨rfl, by simp⟩
theorem prod_pre {α : Type} {m : Nat} {chs d r : List (List α)} {x : List α} (e : chs = d ++ x :: r) (h : ∀ ch ∈ chs, ch.length ≤ m) (hm : 1 ≤ m) (hl : m ^ chs.length ≤ 16777216) : (prod (d ++ [x])).length ≤ 16777216 := by
  have h1 := prod_len m (d ++ [x]) (fun ch hc => h ch (by rw [e]; simp at hc ⊢; rcases hc with hc | hc <;> simp [hc]))
  have h2 : m ^ (d ++ [x]).length ≤ m ^ chs.length := Nat.pow_le_pow_right hm (by rw [e]; simp)
  omega
@[simp] theorem i_l0 (x : T) (xs : List T) : idxT (.list (x :: xs)) (.int 0) = some x := by simp [idxT, atI, ixN]
theorem choices_eq (c : Cty) (p : Pl) : choices c p = (match p with | .at_ j => chs j c.ss | _ => [none]) := by cases p <;> rfl
def chsP (p : Pl) (d : List Stt) : List Ord := match p with
  | .at_ j => chs j d
  | _ => [none]
theorem chsP_len (p : Pl) (d : List Stt) : (chsP p d).length ≤ 1 + 2 * d.length := by
  cases p with
  | at_ j => exact chs_len j d
  | on s j w l => simp [chsP]
  | down => simp [chsP]
theorem find_first {α : Type} (p : α → Bool) (f : α → T) {xs : List α} {x : α} (h : xs.find? p = some x) : ∃ r, (xs.filterMap fun y => if p y then some (f y) else none) = f x :: r := by
  induction xs with
  | nil => cases h
  | cons y ys ih =>
    rw [List.find?_cons] at h
    cases hp : p y with
    | true => rw [hp] at h; cases h; exact ⟨_, by rw [List.filterMap_cons_some (by rw [hp]; rfl)]⟩
    | false =>
      rw [hp] at h
      obtain ⟨r, hr⟩ := ih h
      exact ⟨r, by rw [List.filterMap_cons_none (by rw [hp]; rfl), hr]⟩
end Mi
set_option Elab.async false
set_option linter.all false
set_option autoImplicit false
set_option maxRecDepth 100000
set_option maxHeartbeats 1000000
namespace Mi
open PySem PySem.Spec PyProof.Rows L2
/-! ### the law's own ticks -/
@[simp] theorem x_setC (j : Nat) (i r : SV) (cs : Cs) : setC (.c j) i r cs = (match take1 r cs with
    | some (t, c1) => (match c1[j]?, res i c1 with
      | some (.lst ts), some (.int k) => (match ixN ts.length k with
        | some n => .ok () (c1.set j (.lst (ts.set n t)))
        | none => .bad)
      | _, _ => .bad)
    | none => .bad) := id rfl
@[simp] theorem ixN_nat (m n : Nat) : ixN m (n : Int) = if n < m then some n else none := by
  unfold ixN
  rw [if_pos (by omega)]
  by_cases h : n < m
  · rw [if_pos (by omega), if_pos h]; simp
  · rw [if_neg (by omega), if_neg h]
def leftOk (c : Cty) : Pl → Prop
  | .on _ _ _ l => -c.late ≤ l
  | _ => True
theorem isDown_setOut {c : Cty} {p : Pl} {o : Ord} (hb : canBe c p o = true) : isDown (setOut c p o) = isDown p := by
  cases o with
  | none => cases p <;> rfl
  | some q =>
    obtain ⟨n, w⟩ := q
    simp only [setOut]
    cases h : streetOf c n with
    | none => rfl
    | some s => cases p <;> rfl
theorem down_zip (xs ys : List Pl) (h : xs.map isDown = ys.map isDown) (k : Nat) : (xs.zipIdx k).filterMap (fun p => if !isDown p.1 then some (eN (some p.2)) else none) = (ys.zipIdx k).filterMap (fun p => if !isDown p.1 then some (eN (some p.2)) else none) := by
  induction xs generalizing ys k with
  | nil => cases ys with
    | nil => rfl
    | cons y ys => simp at h
  | cons x xs ih => cases ys with
    | nil => simp at h
    | cons y ys =>
      simp only [List.map_cons, List.cons.injEq] at h
      simp only [List.zipIdx_cons, List.filterMap_cons, h.1, ih ys h.2 (k + 1)]
theorem gone_down {c : Cty} {z : Std} {os : List Ord} (hb : areOrders c z os = true) : (gone c z os).map isDown = z.pls.map isDown := by
  obtain ⟨h1, h2⟩ := areOrders_zip hb
  unfold gone
  rw [List.map_map]
  have e1 : (z.pls.zip os).map (isDown ∘ fun p => setOut c p.1 p.2) = (z.pls.zip os).map (fun p => isDown p.1) := by
    apply List.map_congr_left
    rintro p hp
    exact isDown_setOut (h2 p hp)
  rw [e1]
  have : (z.pls.zip os).map (fun p => isDown p.1) = ((z.pls.zip os).map Prod.fst).map isDown := by rw [List.map_map]; rfl
  rw [this, List.map_fst_zip (by omega)]
theorem filter_fm (xs : List (Pl × Nat)) : xs.filterMap (fun p => if !isDown p.1 then some (eN (some p.2)) else none) = ((xs.filter fun p => !isDown p.1).map fun p => some p.2).map eN := by
  induction xs with
  | nil => rfl
  | cons x xs ih =>
    cases h : isDown x.1
    · rw [List.filterMap_cons_some (by rw [h]; rfl), ih, List.filter_cons_of_pos (by simp [h])]; rfl
    · rw [List.filterMap_cons_none (by rw [h]; rfl), ih, List.filter_cons_of_neg (by simp [h])]
theorem breaks_gone {c : Cty} {z : Std} {os : List Ord} (hb : areOrders c z os = true) : (.none :: (gone c z os).zipIdx.filterMap (fun p => if decide (z.fallen < c.falls) && !isDown p.1 then some (eN (some p.2)) else none) : List T) = (breaks c z).map eN := by
  unfold breaks
  by_cases h : z.fallen < c.falls
  · simp only [h, decide_true, Bool.true_and, if_true]
    rw [down_zip _ _ (gone_down hb), filter_fm]
    rfl
  · simp [h, eN]
def whites (c : Cty) (snow : List Int) (cl fs : List Str) : List Int := (c.ss.zip snow).map fun p =>
  if (if p.1.nm ∈ cl then 0 else p.2) + (if p.1.nm ∈ fs then 1 else 0) ≤ p.1.lim then (if p.1.nm ∈ cl then 0 else p.2) + (if p.1.nm ∈ fs then 1 else 0) else p.1.lim + 1
theorem whites_eq {c : Cty} {snow : List Int} {cl fs : List Str} (h : ∀ p ∈ c.ss.zip snow, p.2 ≤ p.1.lim + 1 ∧ 0 ≤ p.1.lim) : whites c snow cl fs = snowed c (cleared c snow cl) fs := by
  unfold whites snowed cleared
  generalize c.ss = ss at *
  induction ss generalizing snow with
  | nil => simp
  | cons s ss ih => cases snow with
    | nil => simp
    | cons u snow =>
      have h1 := h (s, u) (by simp)
      have h2 := ih (snow := snow) fun p hp => h p (by simp [hp])
      simp only [List.zip_cons_cons, List.map_cons, h2, List.cons.injEq, and_true]
      simp only at h1
      by_cases ha : s.nm ∈ cl <;> by_cases hb : s.nm ∈ fs <;> simp [ha, hb] <;> omega
def tkS (c : Cty) (k : Sky) (z : Std) (os : List Ord) (n : Nat) (u17 u18 u19 u20 u21 u22 u23 u24 u25 u26 u27 u28 u29 u30 : Option SV) : Sl :=
  [some (.t (eC c)), some (.t (eK k)), some (.t (eZ z)), some (.t (eOs os)), some (.t (.list ((gone c z os).map ePl))), some (.t (.list (((gone c z os).map (comings c)).map fun ch => .list (ch.map .bool)))), some (.t (.list ((breaks c z).map eN))),
   some (.t (.int z.time)), some (.t (.str z.state)), some (.t (.tuple (z.snow.map .int))), some (.t (.tuple (z.pls.map ePl))), some (.t (.int z.fallen)), some (.t (.int c.day)), some (.t (.int c.late)), some (.t (.int c.falls)),
   some (.t (.tuple ((arcsOf k z.state).map eA))), some (.c n), u17, u18, u19, u20, u21, u22, u23, u24, u25, u26, u27, u28, u29, u30]
/-- the innermost loop -/
theorem whites_loop {c : Cty} {k : Sky} {z : Std} {os : List Ord} {n : Nat} {a : Arc} {cl : List Str} {E : Cs} {P : RS → Prop} {u17 u19 u20 u21 u24 u25 u26 u27 u28 u29 u30 : Option SV} {b : DS} (hc : Cok c) (hcl : ∀ y ∈ cl, Low y) (hf : ∀ f ∈ a.2, Low f)
    (hk : ∀ u24 u25 u26, P (b (tkS c k z os n u17 (some (.t (eA a))) u19 u20 u21 (some (.t (.list (cl.map .str)))) (some (.c E.length)) u24 u25 u26 u27 u28 u29 u30) (E ++ [.lst ((whites c z.snow cl a.2).map .int)]))) :
    P (dSeq (dFor (dZip (dIdx (dVar 0) (dC (.int 1))) (dVar 9)) (tgTup 2 (tgCons 25 (tgCons 26 (tgNil)))) (dSeq (dAsg (dAdd (dIf (dTest (dBin (op2 inO) (dIdx (dVar 25) (dC (.int 0))) (dVar 22))) (dC (.int 0)) (dVar 26)) (dIf (dTest (dBin (op2 inO) (dIdx (dVar 25) (dC (.int 0))) (dIdx (dVar 18) (dC (.int 1))))) (dC (.int 1)) (dC (.int 0)))) (tgName 26)) (dSeq (dExpr (dApp (dVar 23) (dIf (dTest (dBin (op2 leT) (dVar 26) (dIdx (dVar 25) (dC (.int 5))))) (dVar 26) (dAdd (dIdx (dVar 25) (dC (.int 5))) (dC (.int 1)))))) (dSkip)))) b
      (tkS c k z os n u17 (some (.t (eA a))) u19 u20 u21 (some (.t (.list (cl.map .str)))) (some (.c E.length)) u24 u25 u26 u27 u28 u29 u30) (E ++ [.lst []])) := by
  refine seq_for (cs1 := E ++ [.lst []]) (c.ss.zip z.snow) (fun p => .tuple [eS p.1, .int p.2]) (fun d sl cs' => cs' = E ++ [.lst ((d.map fun p : Stt × Int => if (if p.1.nm ∈ cl then 0 else p.2) + (if p.1.nm ∈ a.2 then 1 else 0) ≤ p.1.lim then (if p.1.nm ∈ cl then 0 else p.2) + (if p.1.nm ∈ a.2 then 1 else 0) else p.1.lim + 1).map .int)] ∧
    ∃ u25 u26, sl = tkS c k z os n u17 (some (.t (eA a))) u19 u20 u21 (some (.t (.list (cl.map .str)))) (some (.c E.length)) u24 u25 u26 u27 u28 u29 u30) (by simp [tkS, zip_map]) ⟨by simp, ⟨_, _, rfl⟩⟩ ?_ ?_
  · rintro d ⟨s, u⟩ r sl cs' e ⟨rfl, ⟨u25, u26, rfl⟩⟩
    have hs := hc.low s (List.of_mem_zip (mid_mem e)).1
    have hdl : d.length < sizeLine := by
      have h1 := congrArg List.length e
      have := hc.ns
      have := sz_of (n := 1000) (by omega)
      simp at h1
      omega
    by_cases h1 : s.nm ∈ cl <;> by_cases h2 : s.nm ∈ a.2
    · by_cases h3 : 1 ≤ s.lim <;> simp [tkS, inO_strs hs hcl, inO_strsT hs hf, h1, h2, hdl, h3]
    · by_cases h3 : 0 ≤ s.lim <;> simp [tkS, inO_strs hs hcl, inO_strsT hs hf, h1, h2, hdl, h3]
    · by_cases h3 : u + 1 ≤ s.lim <;> simp [tkS, inO_strs hs hcl, inO_strsT hs hf, h1, h2, hdl, h3]
    · by_cases h3 : u ≤ s.lim <;> simp [tkS, inO_strs hs hcl, inO_strsT hs hf, h1, h2, hdl, h3]
  · rintro sl cs' ⟨rfl, ⟨u25, u26, rfl⟩⟩
    exact hk _ _ _
theorem cell_l {E F : Cs} {n : Nat} (h : n < E.length) : (E ++ F)[n]? = E[n]? := List.getElem?_append_left h
theorem cell_s {E F : Cs} {n : Nat} {x : C} (h : n < E.length) : (E ++ F).set n x = E.set n x ++ F := by rw [List.set_append, if_pos h]
theorem cell_0 {E : Cs} {x : C} {F : Cs} : (E ++ x :: F)[E.length]? = some x := by simp
theorem cell_1 {E : Cs} {x y : C} {F : Cs} : (E ++ x :: y :: F)[E.length + 1]? = some y := by simp
theorem tick_turn {c : Cty} {k : Sky} {z : Std} {os : List Ord} {cs J : Cs} {X : List T} {a : Arc} {i : Nat} {bs : List Bool} {b : Option Nat} {I : Sl → Cs → Prop} {P : RS → Prop} {u20 u21 u22 u23 u24 u25 u26 u27 u28 u29 u30 : Option SV}
    (hc : Cok c) (hd : 0 < c.day) (hz : Zok z) (hb : areOrders c z os = true) (hw : ∀ p ∈ c.ss.zip z.snow, p.2 ≤ p.1.lim + 1 ∧ 0 ≤ p.1.lim) (hbs : bs ∈ allComings c (gone c z os)) (hbm : b ∈ breaks c z) (hf : ∀ f ∈ a.2, Low f) (hX : X.length < sizeLine)
    (hI : ∀ J u20 u21 u22 u23 u24 u25 u26 u27 u28 u29 u30, I (tkS c k z os cs.length (some (.t (.int (i : Nat)))) (some (.t (eA a))) (some (.t (eBs bs))) u20 u21 u22 u23 u24 u25 u26 u27 u28 u29 u30) (cs ++ .lst (X ++ [eWZ ((i, bs, b), behind c z (gone c z os) a bs b)]) :: J)) :
    Go I P (Turn (tgName 20) (dSeq (dAsg (dCompN (dZip (dVar 4) (dVar 19)) (tgTup 2 (tgCons 27 (tgCons 30 (tgNil)))) (dYes) (dIf (dTest (dVar 30)) (dTup (dCons (dC (.str "at")) (dCons (dIdx (dVar 27) (dC (.int 2))) (dNil)))) (dVar 27)) [27, 30]) (tgName 21)) (dSeq (dAsg (dComp (dZip (dVar 4) (dVar 19)) (tgTup 2 (tgCons 27 (tgCons 30 (tgNil)))) (dAndB (dTest (dVar 30)) (dTest (dIdx (dVar 27) (dC (.int 3))))) (dIdx (dVar 27) (dC (.int 1))) [27, 30]) (tgName 22)) (dSeq (dIfS (dTest (dBin (op2 notN) (dVar 20) (dC .none))) (dSeq (dAsg (dTup (dCons (dC (.str "down")) (dNil))) (tgSub (dVar 21) (dVar 20))) (dSkip)) (dSkip)) (dSeq (dAsg (dLstN (dNil)) (tgName 23)) (dSeq (dFor (dZip (dIdx (dVar 0) (dC (.int 1))) (dVar 9)) (tgTup 2 (tgCons 25 (tgCons 26 (tgNil)))) (dSeq (dAsg (dAdd (dIf (dTest (dBin (op2 inO) (dIdx (dVar 25) (dC (.int 0))) (dVar 22))) (dC (.int 0)) (dVar 26)) (dIf (dTest (dBin (op2 inO) (dIdx (dVar 25) (dC (.int 0))) (dIdx (dVar 18) (dC (.int 1))))) (dC (.int 1)) (dC (.int 0)))) (tgName 26)) (dSeq (dExpr (dApp (dVar 23) (dIf (dTest (dBin (op2 leT) (dVar 26) (dIdx (dVar 25) (dC (.int 5))))) (dVar 26) (dAdd (dIdx (dVar 25) (dC (.int 5))) (dC (.int 1)))))) (dSkip)))) (dSeq (dAsg (dTup (dCons (dMod (dAdd (dVar 7) (dC (.int 1))) (dVar 12)) (dCons (dIdx (dVar 18) (dC (.int 0))) (dCons (dUn tupleT (dVar 23)) (dCons (dUn tupleT (dVar 21)) (dCons (dAdd (dVar 11) (dIf (dTest (dBin (op2 notN) (dVar 20) (dC .none))) (dC (.int 1)) (dC (.int 0)))) (dNil))))))) (tgName 24)) (dSeq (dExpr (dApp (dVar 16) (dTup (dCons (dTup (dCons (dVar 17) (dCons (dVar 19) (dCons (dVar 20) (dNil))))) (dCons (dVar 24) (dNil)))))) (dSkip))))))))
      (eN b) (tkS c k z os cs.length (some (.t (.int (i : Nat)))) (some (.t (eA a))) (some (.t (eBs bs))) u20 u21 u22 u23 u24 u25 u26 u27 u28 u29 u30) (cs ++ .lst X :: J)) := by
  have hx := allComings_mem hbs
  have hco := comings_comeOk hx.2
  have hg := gone_len (c := c) (os := os) hz
  have hgl := goneLen hb
  have hgo := gone_ok (os := os) hc hz
  have hlow : ∀ y ∈ cleanOf (gone c z os) bs, Low y := by
    intro y hy
    unfold cleanOf at hy
    rw [List.mem_filterMap] at hy
    obtain ⟨⟨p, b⟩, h1, h2⟩ := hy
    have := hgo p (List.of_mem_zip h1).1
    cases p with
    | on s j w l =>
      cases w <;> cases b <;> simp [clean1] at h2
      subst h2
      exact this.1
    | at_ j => simp [clean1] at h2
    | down => simp [clean1] at h2
  have hE1 : (cs ++ .lst X :: J)[cs.length]? = some (.lst X) := by simp
  have hE2 : cs.length < (cs ++ .lst X :: J).length := by simp
  have hE3 : ∀ y, (cs ++ .lst X :: J).set cs.length y = cs ++ y :: J := by intro y; simp
  generalize cs ++ .lst X :: J = E at *
  have hcN : ∀ sl : Sl, sl[4]? = some (some (.t (.list ((gone c z os).map ePl)))) → sl[19]? = some (some (.t (eBs bs))) → sl.length = 31 →
      dCompN (dZip (dVar 4) (dVar 19)) (tgTup 2 (tgCons 27 (tgCons 30 (tgNil)))) (dYes) (dIf (dTest (dVar 30)) (dTup (dCons (dC (.str "at")) (dCons (dIdx (dVar 27) (dC (.int 2))) (dNil)))) (dVar 27)) [27, 30] sl E = .ok (.c E.length) (E ++ [.lst ((comeIn (gone c z os) bs).map ePl)]) := by
    intro sl h1 h2 h3
    rw [dCompN_map ((gone c z os).zip bs) (fun p => .tuple [ePl p.1, .bool p.2]) (fun p => ePl (come1 p.1 p.2)) (by simp [h1, h2, eBs, zip_map]) ?_ (sz_of (by simp; omega))]
    · simp [comeIn]
    · rintro ⟨p, q⟩ hp d _ _
      have := hco _ hp
      cases q with
      | false => cases p <;> simp [come1, h3]
      | true => cases p with
        | on s j w l => simp [come1, h3, ePl]
        | at_ j => cases this rfl
        | down => cases this rfl
  have hcl : ∀ (sl : Sl) (E : Cs), sl[4]? = some (some (.t (.list ((gone c z os).map ePl)))) → sl[19]? = some (some (.t (eBs bs))) → sl.length = 31 →
      dComp (dZip (dVar 4) (dVar 19)) (tgTup 2 (tgCons 27 (tgCons 30 (tgNil)))) (dAndB (dTest (dVar 30)) (dTest (dIdx (dVar 27) (dC (.int 3))))) (dIdx (dVar 27) (dC (.int 1))) [27, 30] sl E = .ok (.t (.list ((cleanOf (gone c z os) bs).map .str))) E := by
    intro sl E h1 h2 h3
    rw [dComp_enc ((gone c z os).zip bs) (fun p => .tuple [ePl p.1, .bool p.2]) (fun p => (clean1 p.1 p.2).map .str) (by simp [h1, h2, eBs, zip_map]) ?_ ?_]
    · rw [show ((gone c z os).zip bs).filterMap (fun p => (clean1 p.1 p.2).map PyData.str) = (cleanOf (gone c z os) bs).map .str by unfold cleanOf; rw [List.map_filterMap]]
    · rintro ⟨p, q⟩ hp d _ _
      have := hco _ hp
      cases q with
      | false => cases p <;> simp [clean1, h3]
      | true => cases p with
        | on s j w l => cases w <;> simp [clean1, h3, ePl]
        | at_ j => cases this rfl
        | down => cases this rfl
    · have : (((gone c z os).zip bs).filterMap (fun p => (clean1 p.1 p.2).map PyData.str)).length ≤ ((gone c z os).zip bs).length := List.length_filterMap_le _ _
      simp at this
      exact sz_of (by omega)
  have hend : eWZ ((i, bs, b), behind c z (gone c z os) a bs b) = .tuple [.tuple [.int (i : Nat), eBs bs, eN b], .tuple [.int ((z.time + 1) % c.day), .str a.1, .tuple ((whites c z.snow (cleanOf (gone c z os) bs) a.2).map .int), .tuple ((without (comeIn (gone c z os) bs) b).map ePl), .int (z.fallen + if b.isNone then 0 else 1)]] := by
    rw [whites_eq hw]
    rfl
  rw [x_turn, x_tgName, x_bindS_ok]
  rw [show (tkS c k z os cs.length (some (.t (.int (i : Nat)))) (some (.t (eA a))) (some (.t (eBs bs))) u20 u21 u22 u23 u24 u25 u26 u27 u28 u29 u30).set 20 (some (.t (eN b))) = tkS c k z os cs.length (some (.t (.int (i : Nat)))) (some (.t (eA a))) (some (.t (eBs bs))) (some (.t (eN b))) u21 u22 u23 u24 u25 u26 u27 u28 u29 u30 from rfl]
  rw [x_seq_asg, hcN _ rfl rfl rfl, x_bindS_ok, x_tgName, x_bindS_ok]
  rw [x_seq_asg, hcl _ _ rfl rfl rfl, x_bindS_ok, x_tgName, x_bindS_ok]
  rw [x_seq_ifs]
  have hrest : ∀ (h' : List Pl), h' = without (comeIn (gone c z os) bs) b → Go I P ((dSeq dSkip (dSeq (dAsg (dLstN (dNil)) (tgName 23)) (dSeq (dFor (dZip (dIdx (dVar 0) (dC (.int 1))) (dVar 9)) (tgTup 2 (tgCons 25 (tgCons 26 (tgNil)))) (dSeq (dAsg (dAdd (dIf (dTest (dBin (op2 inO) (dIdx (dVar 25) (dC (.int 0))) (dVar 22))) (dC (.int 0)) (dVar 26)) (dIf (dTest (dBin (op2 inO) (dIdx (dVar 25) (dC (.int 0))) (dIdx (dVar 18) (dC (.int 1))))) (dC (.int 1)) (dC (.int 0)))) (tgName 26)) (dSeq (dExpr (dApp (dVar 23) (dIf (dTest (dBin (op2 leT) (dVar 26) (dIdx (dVar 25) (dC (.int 5))))) (dVar 26) (dAdd (dIdx (dVar 25) (dC (.int 5))) (dC (.int 1)))))) (dSkip)))) (dSeq (dAsg (dTup (dCons (dMod (dAdd (dVar 7) (dC (.int 1))) (dVar 12)) (dCons (dIdx (dVar 18) (dC (.int 0))) (dCons (dUn tupleT (dVar 23)) (dCons (dUn tupleT (dVar 21)) (dCons (dAdd (dVar 11) (dIf (dTest (dBin (op2 notN) (dVar 20) (dC .none))) (dC (.int 1)) (dC (.int 0)))) (dNil))))))) (tgName 24)) (dSeq (dExpr (dApp (dVar 16) (dTup (dCons (dTup (dCons (dVar 17) (dCons (dVar 19) (dCons (dVar 20) (dNil))))) (dCons (dVar 24) (dNil)))))) (dSkip))))))
      (tkS c k z os cs.length (some (.t (.int (i : Nat)))) (some (.t (eA a))) (some (.t (eBs bs))) (some (.t (eN b))) (some (.c E.length)) (some (.t (.list ((cleanOf (gone c z os) bs).map .str)))) u23 u24 u25 u26 u27 u28 u29 u30) (E ++ [.lst (h'.map ePl)])) := by
    intro h' hh
    rw [x_seq_skip, x_seq_asg]
    rw [show dLstN dNil (tkS c k z os cs.length (some (.t (.int (i : Nat)))) (some (.t (eA a))) (some (.t (eBs bs))) (some (.t (eN b))) (some (.c E.length)) (some (.t (.list ((cleanOf (gone c z os) bs).map .str)))) u23 u24 u25 u26 u27 u28 u29 u30) (E ++ [C.lst (h'.map ePl)]) = .ok (.c (E ++ [C.lst (h'.map ePl)]).length) ((E ++ [C.lst (h'.map ePl)]) ++ [C.lst []]) by simp]
    rw [x_bindS_ok, x_tgName, x_bindS_ok]
    refine whites_loop (E := E ++ [.lst (h'.map ePl)]) (u20 := some (.t (eN b))) (u21 := some (.c E.length)) hc hlow hf ?_
    intro v24 v25 v26
    have q := hI (J ++ [C.lst (h'.map ePl), C.lst ((whites c z.snow (cleanOf (gone c z os) bs) a.2).map .int)])
    cases b with
    | none => simp [tkS, hd, cell_l hE2, cell_s hE2, hE1, hE3, hX, hh, hend] at q ⊢; exact q _ _ _ _ _ _ _ _ _ _ _
    | some m => simp [tkS, hd, cell_l hE2, cell_s hE2, hE1, hE3, hX, hh, hend] at q ⊢; exact q _ _ _ _ _ _ _ _ _ _ _
  have hcond : ∀ E', dTest (dBin (op2 notN) (dVar 20) (dC .none)) (tkS c k z os cs.length (some (.t (.int (i : Nat)))) (some (.t (eA a))) (some (.t (eBs bs))) (some (.t (eN b))) (some (.c E.length)) (some (.t (.list ((cleanOf (gone c z os) bs).map .str)))) u23 u24 u25 u26 u27 u28 u29 u30) E' = .ok (!b.isNone) E' := by intro E'; simp [tkS]
  refine cast (congrArg (Go I P) (congrArg (fun r => R.bindS r _ _) (hcond _).symm)) ?_
  rw [x_bindS_ok]
  cases b with
  | none => rw [if_neg (by simp)]; exact hrest _ rfl
  | some m =>
    have := (breaks_mem hbm).1
    have hm : m < (comeIn (gone c z os) bs).length := by simp [comeIn]; omega
    rw [if_pos (by simp), x_seq_seq, x_seq_asg]
    have q := hrest _ rfl
    refine cast (congrArg (Go I P) (Eq.symm ?_)) q
    have e1 : ∀ sl, dTup (dCons (dC (.str "down")) (dNil)) sl (E ++ [C.lst ((comeIn (gone c z os) bs).map ePl)]) = .ok (.t (ePl .down)) (E ++ [C.lst ((comeIn (gone c z os) bs).map ePl)]) := by intro sl; simp [ePl]
    rw [e1, x_bindS_ok]
    have e2 : tgSub (dVar 21) (dVar 20) (.t (ePl .down)) (tkS c k z os cs.length (some (.t (.int (i : Nat)))) (some (.t (eA a))) (some (.t (eBs bs))) (some (.t (eN (some m)))) (some (.c E.length)) (some (.t (.list ((cleanOf (gone c z os) bs).map .str)))) u23 u24 u25 u26 u27 u28 u29 u30) (E ++ [C.lst ((comeIn (gone c z os) bs).map ePl)]) = .ok (tkS c k z os cs.length (some (.t (.int (i : Nat)))) (some (.t (eA a))) (some (.t (eBs bs))) (some (.t (eN (some m)))) (some (.c E.length)) (some (.t (.list ((cleanOf (gone c z os) bs).map .str)))) u23 u24 u25 u26 u27 u28 u29 u30) (E ++ [C.lst ((without (comeIn (gone c z os) bs) (some m)).map ePl)]) := by
      simp [tkS, eN, hm, without]
    refine (congrArg (fun r => R.bindS r _ _) e2).trans ?_
    rfl
end Mi
set_option Elab.async false
set_option linter.all false
set_option autoImplicit false
set_option maxRecDepth 100000
set_option maxHeartbeats 1000000
namespace Mi
open PySem PySem.Spec PyProof.Rows L2
end Mi
set_option Elab.async false
set_option linter.all false
set_option autoImplicit false
set_option maxRecDepth 100000
set_option maxHeartbeats 1000000
namespace Mi
open PySem PySem.Spec PyProof.Rows L2
/-! ### standings, closed streets, the beginning -/
theorem filter_down (ps : List Pl) : (ps.filterMap fun p => if isDown p then some (ePl p) else none).length = downs ps := by
  unfold downs
  induction ps with
  | nil => rfl
  | cons p ps ih =>
    cases h : isDown p
    · rw [List.filterMap_cons_none (by rw [h]; rfl), ih, List.filter_cons_of_neg (by simp [h])]
    · rw [List.filterMap_cons_some (by rw [h]; rfl), List.filter_cons_of_pos h, List.length_cons, List.length_cons, ih]
theorem dec_row (a b : Nat) : (decide ((b : Int) ≤ a) && decide ((a : Int) ≤ b)) = decide (a = b) := by
  by_cases h : a = b
  · subst h; simp
  · rw [decide_eq_false h, Bool.and_eq_false_iff, decide_eq_false_iff_not, decide_eq_false_iff_not]
    omega
def inH (t : Int) (s : Stt) : Bool := s.hrs.any fun h => decide (h.1 ≤ t) && decide (t < h.2)
theorem e_hours (a : D SV) {s : Stt} {t : Int} {cs : Cs} {sl : Sl} (hh : s.hrs.length ≤ 1000) (h1 : sl.length = 7) (h2 : sl[3]? = some (some (.t (eS s)))) (ha : ∀ sl' d, sl'.length = 7 → sl'[2]? = sl[2]? → sl'[1]? = sl[1]? → a sl' d = .ok (.t (.int t)) d) :
    (dUn anyT (dComp (dIter (dIdx (dVar 3) (dC (.int 6)))) (tgTup 2 (tgCons 5 (tgCons 6 (tgNil)))) (dYes) (dChain leT ltT (dVar 5) a (dVar 6)) [5, 6])) sl cs = .ok (.t (.bool (inH t s))) cs := by
  rw [x_un, dComp_map s.hrs eH (fun h => .bool (decide (h.1 ≤ t) && decide (t < h.2))) (by simp [h2]) (by
    rintro ⟨p, q⟩ hx d hd1 hd2
    have := ha (((sl.set 6 none).set 5 none |>.set 5 (some (.t (.int p)))).set 6 (some (.t (.int q)))) d (by simp [h1]) (by simp) (by simp)
    simp at this
    simp [eH, h1, this]
    by_cases h : p ≤ t <;> simp [h]) (sz_of (by omega))]
  simp only [x_bind_ok, x_op1, x_res, x_anyM]
  rfl
theorem fm_filter {α β : Type} (p : α → Bool) (f : α → β) (xs : List α) : (xs.filterMap fun x => if p x then some (f x) else none) = (xs.filter p).map f := by
  induction xs with
  | nil => rfl
  | cons x xs ih =>
    cases h : p x
    · rw [List.filterMap_cons_none (by rw [h]; rfl), ih, List.filter_cons_of_neg (by simp [h])]
    · rw [List.filterMap_cons_some (by rw [h]; rfl), ih, List.filter_cons_of_pos h]; rfl
def shq (t : Int) (p : Stt × Int) : Bool := decide (p.1.lim < p.2) && inH t p.1
theorem shut_eq (c : Cty) (z : Std) : shut c z = ((c.ss.zip z.snow).filter (shq z.time)).map fun p => p.1.nm := rfl
/-! what is refused -/
theorem x_seq_try (m mx i : Nat) (b b2 s2 : DS) (sl : Sl) (cs : Cs) : dSeq (dTry m mx i b b2) s2 sl cs = (match dTry m mx i b b2 sl cs with
  | .nx sl1 cs1 => s2 sl1 cs1
  | r => r) := rfl
end Mi
set_option Elab.async false
set_option linter.all false
set_option autoImplicit false
set_option maxRecDepth 100000
set_option maxHeartbeats 1000000
namespace Mi
open PySem PySem.Spec PyProof.Rows L2
/-! ### what is a city, what a sky -/
def NmOk (s : Str) : Prop := ∀ cs, F_is_name [.t (.str s)] cs = .ok (.t (.bool true)) cs
theorem uniq_nodup : ∀ (xs acc : List Str), (acc ++ xs).Nodup → uniq acc xs = acc ++ xs
  | [], acc, _ => by simp [uniq]
  | x :: xs, acc, h => by
    have h1 : x ∉ acc := by
      intro m
      rw [List.nodup_append] at h
      exact h.2.2 x m x (by simp) rfl
    unfold uniq
    rw [if_neg h1, uniq_nodup xs (acc ++ [x]) (by simpa using h)]
    simp
theorem strs_map (xs : List Str) : strsT (xs.map .str) = some xs := by
  induction xs with
  | nil => rfl
  | cons x xs ih => simp [strsT, ih]
theorem e_unlike_t {xs : List Str} (h : xs.Nodup) (hl : xs.length ≤ 1000) (cs : Cs) : F_are_unlike [.t (.tuple (xs.map .str))] cs = .ok (.t (.bool true)) cs := by
  apply run_go
  have : xs.length < 4000 := by omega
  simp [strs_map, this, uniq_nodup xs [] (by simpa using h)]
theorem e_unlike_l {xs : List Str} (h : xs.Nodup) (hl : xs.length ≤ 1000) (cs : Cs) : F_are_unlike [.t (.list (xs.map .str))] cs = .ok (.t (.bool true)) cs := by
  apply run_go
  have : xs.length < 4000 := by omega
  simp [strs_map, this, uniq_nodup xs [] (by simpa using h)]
def hrsOk (day : Int) : Int → List (Int × Int) → Prop
  | _, [] => True
  | last, (b, e) :: r => last + 1 ≤ b ∧ b ≤ day - 1 ∧ b + 1 ≤ e ∧ e ≤ day ∧ hrsOk day e r
theorem e_check_hours {nm : T} {hrs : List (Int × Int)} {day : Int} (hl : hrs.length ≤ 6) (h : hrsOk day (-1) hrs) (cs : Cs) : F_check_hours [.t nm, .t (.tuple (hrs.map eH)), .t (.int day)] cs = .ok (.t .none) cs := by
  apply run_go
  have r1 : ∀ cs, F_is_row [.t (.tuple (hrs.map eH)), .t (.int 0), .t (.int 6)] cs = .ok (.t (.bool true)) cs := fun cs => by simp; omega
  simp [-e_is_row, -e_is_within, r1]
  refine seq_for hrs eH (fun d sl cs' => cs' = cs ∧ ∃ last u4 u5 u6, (∀ r, hrs = d ++ r → hrsOk day last r) ∧ sl = [some (.t nm), some (.t (.tuple (hrs.map eH))), some (.t (.int day)), some (.t (.int last)), u4, u5, u6]) (by simp) ⟨rfl, -1, _, _, _, by simp; exact h, rfl⟩ ?_ ?_
  · rintro d ⟨b, e⟩ r sl cs' eq ⟨rfl, last, u4, u5, u6, hI, rfl⟩
    have hh := hI _ eq
    simp only [hrsOk] at hh
    obtain ⟨h1, h2, h3, h4, h5⟩ := hh
    have r2 : ∀ cs, F_is_row [.t (.tuple [.int b, .int e]), .t (.int 2), .t (.int 2)] cs = .ok (.t (.bool true)) cs := fun cs => by simp
    have r3 : ∀ cs, F_is_within [.t (.int b), .t (.int (last + 1)), .t (.int (day - 1))] cs = .ok (.t (.bool true)) cs := fun cs => by simp; omega
    have r4 : ∀ cs, F_is_within [.t (.int e), .t (.int (b + 1)), .t (.int day)] cs = .ok (.t (.bool true)) cs := fun cs => by simp; omega
    simp [-e_is_row, -e_is_within, eH, r2, r3, r4]
    intro r' hr'
    have : r = r' := by
      have := eq.symm.trans hr'
      rw [List.append_cancel_left_eq] at this
      simpa using this
    subst this
    exact h5
  · rintro sl cs' ⟨rfl, last, u4, u5, u6, hI, rfl⟩
    simp
structure StreetOk (c : Cty) (s : Stt) : Prop where
  nm : NmOk s.nm
  one : s.one ∈ c.js
  oth : s.oth ∈ c.js
  ne : s.one ≠ s.oth
  go : 1 ≤ s.go ∧ s.go ≤ 9
  wk : s.go ≤ s.wk ∧ s.wk ≤ 20
  lim : 0 ≤ s.lim ∧ s.lim ≤ 9
  hl : s.hrs.length ≤ 6
  hr : hrsOk c.day (-1) s.hrs
theorem tgS (s : Stt) (t : DGs) (sl : Sl) (cs : Cs) : tgTup 7 t (.t (eS s)) sl cs = t [.t (.str s.nm), .t (.str s.one), .t (.str s.oth), .t (.int s.go), .t (.int s.wk), .t (.int s.lim), .t (.tuple (s.hrs.map eH))] sl cs := rfl
theorem e_check_street {c : Cty} {s : Stt} (hj : ∀ j ∈ c.js, Low j) (h : StreetOk c s) (cs : Cs) : F_check_street [.t (eS s), .t (.tuple (c.js.map .str)), .t (.int c.day)] cs = .ok (.t .none) cs := by
  apply run_go
  have r1 : ∀ cs, F_is_row [.t (eS s), .t (.int 7), .t (.int 7)] cs = .ok (.t (.bool true)) cs := fun cs => by simp [eS]
  have r2 := h.nm
  unfold NmOk at r2
  have r3 : ∀ cs, F_is_known [.t (.str s.one), .t (.tuple (c.js.map .str))] cs = .ok (.t (.bool true)) cs := fun cs => by rw [e_known_t (hj _ h.one) hj, decide_eq_true h.one]
  have r4 : ∀ cs, F_is_known [.t (.str s.oth), .t (.tuple (c.js.map .str))] cs = .ok (.t (.bool true)) cs := fun cs => by rw [e_known_t (hj _ h.oth) hj, decide_eq_true h.oth]
  have r5 : ∀ cs, F_is_within [.t (.int s.go), .t (.int 1), .t (.int 9)] cs = .ok (.t (.bool true)) cs := fun cs => by have := h.go; simp; omega
  have r6 : ∀ cs, F_is_within [.t (.int s.wk), .t (.int s.go), .t (.int 20)] cs = .ok (.t (.bool true)) cs := fun cs => by have := h.wk; simp; omega
  have r7 : ∀ cs, F_is_within [.t (.int s.lim), .t (.int 0), .t (.int 9)] cs = .ok (.t (.bool true)) cs := fun cs => by have := h.lim; simp; omega
  simp [-e_is_row, -e_is_within, r1, r2, r3, r4, r5, r6, r7, tgS, h.ne, e_check_hours h.hl h.hr]
structure CityOk (c : Cty) : Prop where
  low : ∀ j ∈ c.js, Low j
  js1 : 1 ≤ c.js.length ∧ c.js.length ≤ 12
  js2 : ∀ j ∈ c.js, NmOk j
  js3 : c.js.Nodup
  ps1 : 1 ≤ c.ps.length ∧ c.ps.length ≤ 4
  ps2 : ∀ p ∈ c.ps, NmOk p.1 ∧ p.2 ∈ c.js
  day : 1 ≤ c.day ∧ c.day ≤ 60
  late : 0 ≤ c.late ∧ c.late ≤ 5
  falls : 0 ≤ c.falls ∧ c.falls ≤ c.ps.length
  ss1 : c.ss.length ≤ 20
  ss2 : ∀ s ∈ c.ss, StreetOk c s
  un : (c.ss.map (·.nm) ++ c.ps.map (·.1)).Nodup
theorem e_check_junctions {c : Cty} (h : CityOk c) (cs : Cs) : F_check_junctions [.t (.tuple (c.js.map .str))] cs = .ok (.t .none) cs := by
  apply run_go
  have r1 : ∀ cs, F_is_row [.t (.tuple (c.js.map .str)), .t (.int 1), .t (.int 12)] cs = .ok (.t (.bool true)) cs := fun cs => by have := h.js1; simp; omega
  simp [-e_is_row, r1]
  rw [dComp_map c.js .str (fun _ => .bool true) (by simp) (by
    intro j hj d _ _
    have := h.js2 j hj
    unfold NmOk at this
    simp [this]) (sz_of (by have := h.js1; omega))]
  simp [e_unlike_t h.js3 (by have := h.js1; omega)]
theorem e_check_ploughs {c : Cty} (h : CityOk c) (cs : Cs) : F_check_ploughs [.t (.tuple (c.ps.map eP)), .t (.tuple (c.js.map .str))] cs = .ok (.t .none) cs := by
  apply run_go
  have r1 : ∀ cs, F_is_row [.t (.tuple (c.ps.map eP)), .t (.int 1), .t (.int 4)] cs = .ok (.t (.bool true)) cs := fun cs => by have := h.ps1; simp; omega
  simp [-e_is_row, r1]
  refine seq_for c.ps eP (fun d sl cs' => cs' = cs ∧ ∃ u, sl = [some (.t (.tuple (c.ps.map eP))), some (.t (.tuple (c.js.map .str))), u]) (by simp) ⟨rfl, _, rfl⟩ ?_ ?_
  · rintro d ⟨n, j⟩ r sl cs' e ⟨rfl, u, rfl⟩
    have hp := h.ps2 _ (mid_mem e)
    have r2 : ∀ cs, F_is_row [.t (.tuple [.str n, .str j]), .t (.int 2), .t (.int 2)] cs = .ok (.t (.bool true)) cs := fun cs => by simp
    have r3 : ∀ cs, F_is_known [.t (.str j), .t (.tuple (c.js.map .str))] cs = .ok (.t (.bool true)) cs := fun cs => by rw [e_known_t (h.low _ hp.2) h.low, decide_eq_true hp.2]
    have r4 := hp.1
    unfold NmOk at r4
    simp [-e_is_row, eP, r2, r3, r4]
  · rintro sl cs' ⟨rfl, u, rfl⟩
    simp
theorem e_check_rules {c : Cty} (h : CityOk c) (cs : Cs) : F_check_rules [.t (.tuple [.int c.day, .int c.late, .int c.falls]), .t (.int (c.ps.length : Nat))] cs = .ok (.t .none) cs := by
  apply run_go
  have r1 : ∀ cs, F_is_row [.t (.tuple [.int c.day, .int c.late, .int c.falls]), .t (.int 3), .t (.int 3)] cs = .ok (.t (.bool true)) cs := fun cs => by simp
  have r2 : ∀ cs, F_is_within [.t (.int c.day), .t (.int 1), .t (.int 60)] cs = .ok (.t (.bool true)) cs := fun cs => by have := h.day; simp; omega
  have r3 : ∀ cs, F_is_within [.t (.int c.late), .t (.int 0), .t (.int 5)] cs = .ok (.t (.bool true)) cs := fun cs => by have := h.late; simp; omega
  have r4 : ∀ cs, F_is_within [.t (.int c.falls), .t (.int 0), .t (.int (c.ps.length : Nat))] cs = .ok (.t (.bool true)) cs := fun cs => by have := h.falls; simp; omega
  simp [-e_is_row, -e_is_within, r1, r2, r3, r4]
theorem tgC (c : Cty) (t : DGs) (sl : Sl) (cs : Cs) : tgTup 4 t (.t (eC c)) sl cs = t [.t (.tuple (c.js.map .str)), .t (.tuple (c.ss.map eS)), .t (.tuple (c.ps.map eP)), .t (.tuple [.int c.day, .int c.late, .int c.falls])] sl cs := rfl
def eCP : Stt ⊕ (Str × Str) → T
  | .inl s => eS s
  | .inr p => eP p
def nCP : Stt ⊕ (Str × Str) → Str
  | .inl s => s.nm
  | .inr p => p.1
theorem e_check_city {c : Cty} (h : CityOk c) (cs : Cs) : F_check_city [.t (eC c)] cs = .ok (.t .none) cs := by
  apply run_go
  have r1 : ∀ cs, F_is_row [.t (eC c), .t (.int 4), .t (.int 4)] cs = .ok (.t (.bool true)) cs := fun cs => by simp [eC]
  have r2 : ∀ cs, F_is_row [.t (.tuple (c.ss.map eS)), .t (.int 0), .t (.int 20)] cs = .ok (.t (.bool true)) cs := fun cs => by have := h.ss1; simp; omega
  simp [-e_is_row, r1, r2, tgC, e_check_junctions h, e_check_ploughs h, e_check_rules h]
  refine seq_for c.ss eS (fun d sl cs' => cs' = cs ∧ ∃ u, sl = [some (.t (eC c)), u, some (.t (.tuple (c.js.map .str))), some (.t (.tuple (c.ss.map eS))), some (.t (.tuple (c.ps.map eP))), some (.t (.tuple [.int c.day, .int c.late, .int c.falls])), none]) (by simp) ⟨rfl, _, rfl⟩ ?_ ?_
  · rintro d s r sl cs' e ⟨rfl, u, rfl⟩
    simp [e_check_street h.low (h.ss2 s (mid_mem e))]
  · rintro sl cs' ⟨rfl, u, rfl⟩
    have hl : c.ss.length + c.ps.length ≤ sizeLine := sz_of (by have := h.ss1; have := h.ps1; omega)
    have e0 : c.ss.map eS ++ c.ps.map eP = (c.ss.map Sum.inl ++ c.ps.map Sum.inr).map eCP := by simp [Function.comp_def, eCP]
    have e1 : (c.ss.map Sum.inl ++ c.ps.map Sum.inr).map nCP = c.ss.map (·.nm) ++ c.ps.map (·.1) := by simp [Function.comp_def, nCP]
    have e2 : List.map (fun x => PyData.str (nCP x)) (c.ss.map Sum.inl ++ c.ps.map Sum.inr) = (c.ss.map (·.nm) ++ c.ps.map (·.1)).map PyData.str := by rw [← e1, List.map_map]; rfl
    simp
    rw [dComp_map (c.ss.map Sum.inl ++ c.ps.map Sum.inr) eCP (fun x => .str (nCP x)) (by simp only [x_iter_c, x_add, x_var, List.getElem?_cons_succ, List.getElem?_cons_zero, x_bind_ok, x_op2, x_res, x_addTup, List.length_map, hl, if_true, x_seqT, e0]) (by
      intro x hx d _ _
      cases x with
      | inl s => simp [eCP, nCP]
      | inr p => simp [eCP, eP, nCP]) (by simpa using hl)]
    rw [e2]
    simp only [x_bind_ok]
    rw [e_unlike_l h.un (by have := h.ss1; have := h.ps1; simp; omega)]
    simp
theorem x_seq_tryO (m mx : Nat) (b b2 s2 : DS) (sl : Sl) (cs : Cs) : dSeq (dTryO m mx b b2) s2 sl cs = (match dTryO m mx b b2 sl cs with
  | .nx sl1 cs1 => s2 sl1 cs1
  | r => r) := rfl
structure SkyOk (c : Cty) (k : Sky) : Prop where
  low1 : ∀ x ∈ k.sts, Low x.1
  low2 : ∀ s ∈ c.ss, Low s.nm
  n1 : 1 ≤ k.sts.length ∧ k.sts.length ≤ 30
  nm : ∀ x ∈ k.sts, NmOk x.1
  un : (k.sts.map (·.1)).Nodup
  fst : k.first ∈ k.sts.map (·.1)
  n2 : ∀ x ∈ k.sts, 1 ≤ x.2.length ∧ x.2.length ≤ 12
  arc : ∀ x ∈ k.sts, ∀ a ∈ x.2, a.1 ∈ k.sts.map (·.1) ∧ a.2.length ≤ c.ss.length ∧ (∀ f ∈ a.2, f ∈ c.ss.map (·.nm)) ∧ a.2.Nodup
  ns : c.ss.length ≤ 20
theorem e_check_arcs {c : Cty} {k : Sky} {x : Str × List Arc} (h : SkyOk c k) (hx : x ∈ k.sts) (cs : Cs) : F_check_arcs [.t (.str x.1), .t (.tuple (x.2.map eA)), .t (.list ((k.sts.map (·.1)).map .str)), .t (.list ((c.ss.map (·.nm)).map .str))] cs = .ok (.t .none) cs := by
  have hlk : ∀ y ∈ k.sts.map (·.1), Low y := by intro y hy; rw [List.mem_map] at hy; obtain ⟨x, hx, rfl⟩ := hy; exact h.low1 x hx
  have hls : ∀ y ∈ c.ss.map (·.nm), Low y := by intro y hy; rw [List.mem_map] at hy; obtain ⟨x, hx, rfl⟩ := hy; exact h.low2 x hx
  have hns := h.ns
  have hnl : (c.ss.map (·.nm)).length = c.ss.length := by simp
  have harc := h.arc x hx
  have hn2 := h.n2 x hx
  generalize k.sts.map (·.1) = ks at *
  generalize c.ss.map (·.nm) = sn at *
  apply run_go
  have r1 : ∀ cs, F_is_row [.t (.tuple (x.2.map eA)), .t (.int 1), .t (.int 12)] cs = .ok (.t (.bool true)) cs := fun cs => by simp; omega
  simp [-e_is_row, r1]
  refine seq_for x.2 eA (fun d sl cs' => cs' = cs ∧ ∃ u4 u5, sl = [some (.t (.str x.1)), some (.t (.tuple (x.2.map eA))), some (.t (.list (ks.map .str))), some (.t (.list (sn.map .str))), u4, u5, none]) (by simp) ⟨rfl, _, _, rfl⟩ ?_ ?_
  · rintro d a r sl cs' e ⟨rfl, u4, u5, rfl⟩
    obtain ⟨h1, h2, h3, h4⟩ := harc a (mid_mem e)
    have r2 : ∀ cs, F_is_row [.t (eA a), .t (.int 2), .t (.int 2)] cs = .ok (.t (.bool true)) cs := fun cs => by simp [eA]
    have r3 : ∀ cs, F_is_known [.t (.str a.1), .t (.list (ks.map .str))] cs = .ok (.t (.bool true)) cs := fun cs => by rw [e_known_l (hlk _ h1) hlk, decide_eq_true h1]
    have r4 : ∀ cs, F_is_row [.t (.tuple (a.2.map .str)), .t (.int 0), .t (.int (sn.length : Nat))] cs = .ok (.t (.bool true)) cs := fun cs => by simp; omega
    simp [-e_is_row, r2, r3, r4]
    rw [dComp_map a.2 .str (fun _ => .bool true) (by simp) (by
      intro f hf d _ _
      have hff := h3 f hf
      have r5 : ∀ cs, F_is_known [.t (.str f), .t (.list (sn.map .str))] cs = .ok (.t (.bool true)) cs := fun cs => by rw [e_known_l (hls _ hff) hls, decide_eq_true hff]
      simp [r5]) (sz_of (by omega))]
    simp [e_unlike_t h4 (by omega)]
  · rintro sl cs' ⟨rfl, u4, u5, rfl⟩
    simp
theorem tgK (k : Sky) (t : DGs) (sl : Sl) (cs : Cs) : tgTup 2 t (.t (eK k)) sl cs = t [.t (.str k.first), .t (.tuple (k.sts.map eSt))] sl cs := rfl
theorem tgSt (x : Str × List Arc) (t : DGs) (sl : Sl) (cs : Cs) : tgTup 2 t (.t (eSt x)) sl cs = t [.t (.str x.1), .t (.tuple (x.2.map eA))] sl cs := rfl
theorem e_check_sky {c : Cty} {k : Sky} (h : SkyOk c k) (cs : Cs) : F_check_sky [.t (eC c), .t (eK k)] cs = .ok (.t .none) cs := by
  apply run_go
  have hlk : ∀ y ∈ k.sts.map (·.1), Low y := by intro y hy; rw [List.mem_map] at hy; obtain ⟨x, hx, rfl⟩ := hy; exact h.low1 x hx
  have r1 : ∀ cs, F_is_row [.t (eK k), .t (.int 2), .t (.int 2)] cs = .ok (.t (.bool true)) cs := fun cs => by simp [eK]
  have r2 : ∀ cs, F_is_row [.t (.tuple (k.sts.map eSt)), .t (.int 1), .t (.int 30)] cs = .ok (.t (.bool true)) cs := fun cs => by have := h.n1; simp; omega
  have r3 : ∀ cs, F_is_known [.t (.str k.first), .t (.list ((k.sts.map (·.1)).map .str))] cs = .ok (.t (.bool true)) cs := fun cs => by rw [e_known_l (hlk _ h.fst) hlk, decide_eq_true h.fst]
  have r4 := fun cs => e_unlike_l h.un (by have := h.n1; simp; omega) cs
  simp [-e_is_row, r1, r2, tgK]
  refine seq_for k.sts eSt (fun d sl cs' => cs' = cs ∧ ∃ u, sl = [some (.t (eC c)), some (.t (eK k)), u, none, none, some (.t (.str k.first)), some (.t (.tuple (k.sts.map eSt))), none, none, none]) (by simp) ⟨rfl, _, rfl⟩ ?_ ?_
  · rintro d x r sl cs' e ⟨rfl, u, rfl⟩
    have r5 : ∀ cs, F_is_row [.t (.tuple [.str x.1, .tuple (x.2.map eA)]), .t (.int 2), .t (.int 2)] cs = .ok (.t (.bool true)) cs := fun cs => by simp
    have r6 := h.nm x (mid_mem e)
    unfold NmOk at r6
    simp [-e_is_row, eSt, r5, r6]
  · rintro sl cs' ⟨rfl, u, rfl⟩
    simp only [x_seq_asg]
    rw [dComp_map k.sts eSt (fun x => .str x.1) (by simp) (by intro x _ d _ _; simp [eSt]) (sz_of (by have := h.n1; omega))]
    rw [show k.sts.map (fun x => PyData.str x.1) = (k.sts.map (·.1)).map .str by rw [List.map_map]; rfl]
    simp only [x_bindS_ok, x_tgName, List.set_cons_succ, List.set_cons_zero, x_seq_ifs, x_notB, x_test, x_call, x_cons, x_var, x_nil, List.getElem?_cons_succ, List.getElem?_cons_zero, x_bind_ok, r4, r3, x_res, Bool.not_true, Bool.false_eq_true, if_false, x_seq_skip, x_seq_asg]
    rw [dComp_map c.ss eS (fun s => .str s.nm) (by simp) (by intro x _ d _ _; simp) (sz_of (by have := h.ns; omega))]
    rw [show c.ss.map (fun s => PyData.str s.nm) = (c.ss.map (·.nm)).map .str by rw [List.map_map]; rfl]
    simp only [x_bindS_ok, x_tgName, List.set_cons_succ, List.set_cons_zero]
    refine seq_for k.sts eSt (fun d sl cs'' => cs'' = cs' ∧ ∃ u7 u8, sl = [some (.t (eC c)), some (.t (eK k)), u, some (.t (.list ((k.sts.map (·.1)).map .str))), some (.t (.list ((c.ss.map (·.nm)).map .str))), some (.t (.str k.first)), some (.t (.tuple (k.sts.map eSt))), u7, u8, none]) (by simp) ⟨rfl, _, _, rfl⟩ ?_ ?_
    · rintro d x r sl cs'' e ⟨rfl, u7, u8, rfl⟩
      have r7 := fun cs => e_check_arcs h (mid_mem e) cs
      simp only [x_turn, tgSt, x_tgCons, x_tgNil, List.set_cons_succ, List.set_cons_zero, x_bindS_ok, x_seq_expr, x_call, x_cons, x_var, x_nil, List.getElem?_cons_succ, List.getElem?_cons_zero, x_bind_ok, r7, x_skip, go_nx]
      exact ⟨by simp, _, _, rfl⟩
    · rintro sl cs'' ⟨rfl, u7, u8, rfl⟩
      simp
end Mi
set_option Elab.async false
set_option linter.all false
set_option autoImplicit false
set_option maxRecDepth 100000
set_option maxHeartbeats 1000000
namespace Mi
open PySem PySem.Spec PyProof.Rows L2
/-! ### what is drawn -/
theorem log_ok {i : Int} (h : i.natAbs < 2 ^ 250) : i.natAbs.log2 < 250 := by
  by_cases h0 : i.natAbs = 0
  · rw [h0]; decide
  · exact (Nat.log2_lt h0).mpr h
theorem mul_ok {i j : Int} (hi : i.natAbs < 2 ^ 250) (hj : j.natAbs < 2 ^ 250) : mulT (.int i) (.int j) = some (.int (i * j)) := by
  have := log_ok hi
  have := log_ok hj
  rw [x_mulI, if_pos (by omega)]
theorem mul_sm {i j : Int} (hi : -(10 ^ 18) < i ∧ i < 10 ^ 18) (hj : -(10 ^ 18) < j ∧ j < 10 ^ 18) : mulT (.int i) (.int j) = some (.int (i * j)) := by
  have h : (10 ^ 18 : Nat) < 2 ^ 250 := by decide
  refine mul_ok (Nat.lt_trans (m := 10 ^ 18) ?_ h) (Nat.lt_trans (m := 10 ^ 18) ?_ h) <;> omega
theorem cell_at_eq (ns : List Int) (k : Nat) (cs : Cs) : F__law_cell_at [.t (.list (ns.map PyData.int)), .t (.int k)] cs = .ok (.t (.int (ns.getD k 0))) cs := by
  apply run_go
  by_cases h : k < ns.length
  · simp [h, idxT, atI]
  · simp [h]
theorem pow_fits (m : Nat) (h : m ≤ 23) : (1009 ^ m : Nat) < 2 ^ 250 := by
  have h1 : 1009 ^ m ≤ 1009 ^ 23 := Nat.pow_le_pow_right (by decide) h
  have h2 : (1009 ^ 23 : Nat) < 2 ^ 250 := by decide
  omega
theorem draw_spec {cell k : Int} (hc : 0 ≤ cell ∧ cell < 10 ^ 17) (hk : 1 ≤ k ∧ k ≤ 9) : ∃ v : Int, ∀ cs : Cs, F__law_draw [.t (.int cell), .t (.int k), .t (.int 999983)] cs = .ok (.t (.int v)) cs := by
  have h1 : mulT (.int cell) (.int 48271) = some (.int (cell * 48271)) := mul_sm (by omega) (by omega)
  have h2 : mulT (.int k) (.int 69621) = some (.int (k * 69621)) := mul_sm (by omega) (by omega)
  have h3 : k % 16 = k := by omega
  have hs : (16 ≤ sizeLine) = True := by simp only [eq_iff_iff, iff_true]; decide +kernel
  have : k = 1 ∨ k = 2 ∨ k = 3 ∨ k = 4 ∨ k = 5 ∨ k = 6 ∨ k = 7 ∨ k = 8 ∨ k = 9 := by omega
  rcases this with rfl | rfl | rfl | rfl | rfl | rfl | rfl | rfl | rfl
  · exact ⟨(cell * 48271 + 1 * 69621) % 1000033 % 999983, fun cs => by apply run_go; simp [-x_mulI, h1, h2, hs, idxT, atI, ixN]⟩
  · exact ⟨(cell * 48271 + 2 * 69621) % 1000037 % 999983, fun cs => by apply run_go; simp [-x_mulI, h1, h2, hs, idxT, atI, ixN]⟩
  · exact ⟨(cell * 48271 + 3 * 69621) % 1000039 % 999983, fun cs => by apply run_go; simp [-x_mulI, h1, h2, hs, idxT, atI, ixN]⟩
  · exact ⟨(cell * 48271 + 4 * 69621) % 1000081 % 999983, fun cs => by apply run_go; simp [-x_mulI, h1, h2, hs, idxT, atI, ixN]⟩
  · exact ⟨(cell * 48271 + 5 * 69621) % 1000099 % 999983, fun cs => by apply run_go; simp [-x_mulI, h1, h2, hs, idxT, atI, ixN]⟩
  · exact ⟨(cell * 48271 + 6 * 69621) % 1000117 % 999983, fun cs => by apply run_go; simp [-x_mulI, h1, h2, hs, idxT, atI, ixN]⟩
  · exact ⟨(cell * 48271 + 7 * 69621) % 1000121 % 999983, fun cs => by apply run_go; simp [-x_mulI, h1, h2, hs, idxT, atI, ixN]⟩
  · exact ⟨(cell * 48271 + 8 * 69621) % 1000133 % 999983, fun cs => by apply run_go; simp [-x_mulI, h1, h2, hs, idxT, atI, ixN]⟩
  · exact ⟨(cell * 48271 + 9 * 69621) % 1000151 % 999983, fun cs => by apply run_go; simp [-x_mulI, h1, h2, hs, idxT, atI, ixN]⟩
end Mi
set_option Elab.async false
set_option linter.all false
set_option autoImplicit false
set_option maxRecDepth 100000
set_option maxHeartbeats 1000000
namespace Mi
open PySem PySem.Spec PyProof.Rows L2
theorem pow_10 : powT (.int 10) (.int 18) = some (.int (10 ^ 18)) := by
  have h : (0 : Int) ≤ 18 ∧ (18 : Int) ≤ 1000000 ∧ (10 : Int).natAbs < 2 ^ 64 := by decide
  have : powT (.int 10) (.int 18) = if (0 : Int) ≤ 18 ∧ (18 : Int) ≤ 1000000 ∧ (10 : Int).natAbs < 2 ^ 64 then some (.int ((10 : Int) ^ (18 : Int).toNat)) else none := id rfl
  rw [this, if_pos h]
  rfl
theorem fdiv_pow (x : Int) (m : Nat) (hm : m ≤ 23) : fdivT (.int x) (.int (1009 ^ m)) = some (.int (x / 1009 ^ m)) := by
  have hpos : (0 : Int) < 1009 ^ m := Int.pow_pos (by decide)
  have hlog : ((1009 : Int) ^ m).natAbs.log2 < 9000 := by
    have h1 : ((1009 : Int) ^ m).natAbs = 1009 ^ m := by rw [Int.natAbs_pow]; rfl
    have := log_ok (i := (1009 : Int) ^ m) (by rw [h1]; exact pow_fits m (by omega))
    omega
  rw [x_fdivI, if_pos ⟨hpos, hlog⟩]
theorem mul_pow (m : Nat) (hm : m ≤ 23) : mulT (.int (1009 ^ m)) (.int 1009) = some (.int (1009 ^ (m + 1))) := by
  have h1 : ((1009 : Int) ^ m).natAbs = 1009 ^ m := by rw [Int.natAbs_pow]; rfl
  rw [mul_ok (by rw [h1]; exact pow_fits _ hm) (by decide), Int.pow_succ]
theorem small_draw {small : Int} {m : Nat} (hs : 0 ≤ small ∧ small < 1000003) (hk : 1 ≤ m ∧ m ≤ 12) : ∃ w : Int, ∀ cs, F__law_draw [.t (.int ((small + 977 * m) * (small + 31 * m + 5))), .t (.int (m % 9 + 1)), .t (.int 999983)] cs = .ok (.t (.int w)) cs := by
  have h1 : 0 ≤ small + 977 * m ∧ small + 977 * m ≤ 2000000 := by omega
  have h2 : 0 ≤ small + 31 * m + 5 ∧ small + 31 * m + 5 ≤ 2000000 := by omega
  have hc : 0 ≤ (small + 977 * m) * (small + 31 * m + 5) ∧ (small + 977 * m) * (small + 31 * m + 5) < 10 ^ 17 := by
    refine ⟨Int.mul_nonneg h1.1 h2.1, ?_⟩
    have := Int.mul_le_mul h1.2 h2.2 h2.1 (by decide)
    omega
  exact draw_spec hc (by omega)
theorem small_mul {small : Int} {m : Nat} (hs : 0 ≤ small ∧ small < 1000003) (hk : 1 ≤ m ∧ m ≤ 12) : mulT (.int 977) (.int (m : Nat)) = some (.int (977 * m)) ∧ mulT (.int 31) (.int (m : Nat)) = some (.int (31 * m)) ∧ mulT (.int (small + 977 * m)) (.int (small + 31 * m + 5)) = some (.int ((small + 977 * m) * (small + 31 * m + 5))) :=
  ⟨mul_sm (by omega) (by omega), mul_sm (by omega) (by omega), mul_sm (by omega) (by omega)⟩
theorem number_loop (m : Nat) (hm : 1 ≤ m ∧ m ≤ 12) (a b c0 : SV) (P : RS → Prop) (b2 : DS) (cs : Cs) (hb : b = .t (.int (m : Nat))) (h : ∀ u, P (b2 [some a, some b, some c0, some (.t (.int (1009 ^ m))), u, none, none] cs)) :
    P (dSeq (dFor (dRng1 (dMod (dUn intT (dVar 1)) (dC (.int 24)))) (tgName 4) (dSeq (dAsg (dMul (dVar 3) (dC (.int 1009))) (tgName 3)) (dSkip))) b2 [some a, some b, some c0, some (.t (.int 1)), none, none, none] cs) := by
  subst hb
  have hmm : ((m : Nat) : Int) % 24 = (m : Nat) := by omega
  refine seq_for (List.range m) (fun i => .int (i : Nat)) (fun d sl cs' => cs' = cs ∧ ∃ u, sl = [some a, some (.t (.int (m : Nat))), some c0, some (.t (.int (1009 ^ d.length))), u, none, none]) (rng1_nat (by simp [hmm]) (by omega)) ⟨rfl, _, rfl⟩ ?_ ?_
  · rintro d i r sl cs' e ⟨rfl, u, rfl⟩
    have hd : d.length ≤ 23 := by have := congrArg List.length e; simp at this; omega
    have := mul_pow d.length hd
    simp [-x_mulI, this]
  · rintro sl cs' ⟨rfl, u, rfl⟩
    rw [List.length_range]
    exact h u
theorem number_spec {cell k bound : Int} (hk : 1 ≤ k ∧ k ≤ 12) (hb : 1 ≤ bound) : ∃ v : Int, 0 ≤ v ∧ v < bound ∧ ∀ cs, F__law_number [.t (.int cell), .t (.int k), .t (.int bound)] cs = .ok (.t (.int v)) cs := by
  obtain ⟨m, rfl⟩ : ∃ m : Nat, k = (m : Int) := ⟨k.toNat, by omega⟩
  have hk2 : 1 ≤ m ∧ m ≤ 12 := by omega
  have hs1 : 0 ≤ cell % 1000003 ∧ cell % 1000003 < 1000003 := by omega
  have hbp : 0 < bound := by omega
  obtain ⟨w, hw⟩ := small_draw hs1 hk2
  obtain ⟨m1, m2, m3⟩ := small_mul hs1 hk2
  have hp := pow_10
  have hf := fdiv_pow (cell - 10 ^ 18) m (by omega)
  generalize (10 : Int) ^ 18 = E at *
  generalize (cell - E) / 1009 ^ m = q at *
  have hmod : modT (.int cell) (.int 1000003) = some (.int (cell % 1000003)) := by rw [x_modI, if_pos (by decide)]
  generalize cell % 1000003 = small at *
  have hmod1 : ∀ x : Int, modT (.int x) (.int 1009) = some (.int (x % 1009)) := fun x => by rw [x_modI, if_pos (by decide)]
  have hmod2 : ∀ x : Int, modT (.int x) (.int bound) = some (.int (x % bound)) := fun x => by rw [x_modI, if_pos hbp]
  have hmod3 : ∀ x : Int, modT (.int x) (.int 9) = some (.int (x % 9)) := fun x => by rw [x_modI, if_pos (by decide)]
  refine ⟨if 0 < q then q % 1009 % bound else w % bound, ?_, ?_, fun cs => ?_⟩
  · split <;> exact Int.emod_nonneg _ (by omega)
  · split <;> exact Int.emod_lt_of_pos _ (by omega)
  · apply run_go
    rw [x_seq_asg, x_c, x_bindS_ok, x_tgName, x_bindS_ok]
    refine number_loop m hk2 _ _ _ _ _ cs rfl fun u => ?_
    by_cases hq : 0 < q
    · simp [-x_mulI, -x_modI, -x_fdivI, hp, hf, hmod, hmod1, hmod2, hq]
    · simp [-x_mulI, -x_modI, -x_fdivI, hp, hf, hmod, hmod1, hmod2, hmod3, hq, m1, m2, m3, hw]
end Mi
set_option Elab.async false
set_option linter.all false
set_option autoImplicit false
set_option maxRecDepth 100000
set_option maxHeartbeats 1000000
namespace Mi
open PySem PySem.Spec PyProof.Rows L2
def DrC (ns : List Int) (n : Nat) : C := .lst [.list (ns.map .int), .int 0, .int (n : Nat)]
@[simp] theorem il1 (x y z : T) : idxT (.list [x, y, z]) (.int 1) = some y := id rfl
@[simp] theorem il2 (x y z : T) : idxT (.list [x, y, z]) (.int 2) = some z := id rfl
theorem next_spec {ns : List Int} {n : Nat} {bound : Int} (hn : n ≤ 100000) (hb : 1 ≤ bound) : ∃ v : Int, 0 ≤ v ∧ v < bound ∧ ∀ r, F__law_next [.c 0, .t (.int bound)] (DrC ns n :: r) = .ok (.t (.int v)) (DrC ns (n + 1) :: r) := by
  have hdiv : fdivT (.int ((n + 1 : Nat) : Int)) (.int 12) = some (.int (((n + 1) / 12 : Nat) : Int)) := by
    rw [x_fdivI, if_pos ⟨by decide, by decide⟩]
    simp
  have hmul : mulT (.int 31) (.int (((n + 1) / 12 : Nat) : Int)) = some (.int (31 * (((n + 1) / 12 : Nat) : Int))) := mul_sm (by omega) (by omega)
  have hmod : modT (.int ((n + 1 : Nat) : Int)) (.int 12) = some (.int (((n + 1) % 12 : Nat) : Int)) := by
    rw [x_modI, if_pos (by decide)]
    simp
  have hcell := fun cs => cell_at_eq ns ((n + 1) / 12) cs
  obtain ⟨v, h1, h2, h3⟩ := number_spec (cell := ns.getD ((n + 1) / 12) 0 + 31 * (((n + 1) / 12 : Nat) : Int)) (k := (((n + 1) % 12 : Nat) : Int) + 1) (by omega) hb
  refine ⟨v, h1, h2, fun r => ?_⟩
  have hnn : (n : Int) + 1 = ((n + 1 : Nat) : Int) := by simp
  generalize (n + 1) / 12 = q at *
  generalize (n + 1) % 12 = m at *
  generalize n + 1 = k at *
  generalize ns.getD q 0 = e at *
  unfold DrC
  apply run_go
  simp [-x_mulI, -x_fdivI, -x_modI, hdiv, hmul, hmod, hcell, hnn, h3, ixN]
theorem atI_mem {ts : List T} {v : Int} (h0 : 0 ≤ v) (h1 : v < ts.length) : ∃ t, atI ts v = some t ∧ t ∈ ts := by
  obtain ⟨m, rfl⟩ : ∃ m : Nat, v = (m : Int) := ⟨v.toNat, by omega⟩
  have hm : m < ts.length := by omega
  refine ⟨ts[m], ?_, List.getElem_mem hm⟩
  unfold atI
  rw [ixN_nat, if_pos hm]
  simp [hm]
theorem pick_l {ns : List Int} {n : Nat} {ts : List T} (hn : n ≤ 100000) (hl : 1 ≤ ts.length) : ∃ t ∈ ts, ∀ r, F__law_pick [.c 0, .t (.list ts)] (DrC ns n :: r) = .ok (.t t) (DrC ns (n + 1) :: r) := by
  obtain ⟨v, h1, h2, h3⟩ := next_spec (ns := ns) (bound := ts.length) hn (by omega)
  obtain ⟨t, h4, h5⟩ := atI_mem h1 h2
  refine ⟨t, h5, fun r => ?_⟩
  apply run_go
  simp [h3, idxT, h4]
theorem pick_t {ns : List Int} {n : Nat} {ts : List T} (hn : n ≤ 100000) (hl : 1 ≤ ts.length) : ∃ t ∈ ts, ∀ r, F__law_pick [.c 0, .t (.tuple ts)] (DrC ns n :: r) = .ok (.t t) (DrC ns (n + 1) :: r) := by
  obtain ⟨v, h1, h2, h3⟩ := next_spec (ns := ns) (bound := ts.length) hn (by omega)
  obtain ⟨t, h4, h5⟩ := atI_mem h1 h2
  refine ⟨t, h5, fun r => ?_⟩
  apply run_go
  simp [h3, idxT, h4]
theorem pick_lm {α : Type} (ns : List Int) (n : Nat) {xs : List α} (f : α → T) (hn : n ≤ 100000) (hl : xs ≠ []) : ∃ x ∈ xs, ∀ r, F__law_pick [.c 0, .t (.list (xs.map f))] (DrC ns n :: r) = .ok (.t (f x)) (DrC ns (n + 1) :: r) := by
  have hl2 : 1 ≤ (xs.map f).length := by
    cases xs with
    | nil => exact absurd rfl hl
    | cons x xs => simp
  obtain ⟨t, h1, h2⟩ := pick_l (ns := ns) hn hl2
  obtain ⟨x, hx, rfl⟩ := List.mem_map.mp h1
  exact ⟨x, hx, h2⟩
theorem pick_tm {α : Type} (ns : List Int) (n : Nat) {xs : List α} (f : α → T) (hn : n ≤ 100000) (hl : xs ≠ []) : ∃ x ∈ xs, ∀ r, F__law_pick [.c 0, .t (.tuple (xs.map f))] (DrC ns n :: r) = .ok (.t (f x)) (DrC ns (n + 1) :: r) := by
  have hl2 : 1 ≤ (xs.map f).length := by
    cases xs with
    | nil => exact absurd rfl hl
    | cons x xs => simp
  obtain ⟨t, h1, h2⟩ := pick_t (ns := ns) hn hl2
  obtain ⟨x, hx, rfl⟩ := List.mem_map.mp h1
  exact ⟨x, hx, h2⟩
def hrsD (day : Int) : List (List (Int × Int)) := [[(0, day)], [(0, day)], [], [(0, 1)], [(day - 1, day)], if 2 < day then [(0, 1), (2, 3)] else [(0, day)]]
theorem hours_spec (ns : List Int) (n : Nat) {day : Int} (hn : n ≤ 100000) (hd : 1 ≤ day ∧ day ≤ 60) : ∃ h : List (Int × Int), h.length ≤ 6 ∧ hrsOk day (-1) h ∧ ∀ r, F__law_hours [.c 0, .t (.int day)] (DrC ns n :: r) = .ok (.t (.tuple (h.map eH))) (DrC ns (n + 1) :: r) := by
  obtain ⟨h, h1, h2⟩ := pick_lm ns n (xs := hrsD day) (fun h => .tuple (h.map eH)) hn (by simp [hrsD])
  refine ⟨h, ?_, ?_, fun r => ?_⟩
  · simp only [hrsD] at h1
    split at h1 <;> simp at h1 <;> rcases h1 with rfl | rfl | rfl | rfl | rfl <;> simp
  · simp only [hrsD] at h1
    split at h1 <;> simp at h1 <;> rcases h1 with rfl | rfl | rfl | rfl | rfl <;> simp [hrsOk] <;> omega
  · apply run_go
    by_cases hq : 2 < day
    · simp [hrsD, hq, eH] at h2
      simp [hq, h2]
    · simp [hrsD, hq, eH] at h2
      simp [hq, h2]
theorem compL_st {α : Type} {enc : α → T} {t : DG} {c : D Bool} {e : D SV} {vs : List Nat} {sl : Sl} {j : Nat} {all : List T} (I : List α → List T → Cs → Prop) : ∀ (todo done : List α) (acc : List T) (E : Cs), E.length = j → I done acc E →
    (∀ d x r acc E, done ++ todo = d ++ x :: r → E.length = j → I d acc E → acc.length < sizeLine ∧ ∃ o E', CTurn t c e vs (enc x) sl (E ++ [.lst acc]) = .ok o (E' ++ [.lst acc]) ∧ E'.length = j ∧ (match o with | none => I (d ++ [x]) acc E' | some (.t v) => I (d ++ [x]) (acc ++ [v]) E' | _ => False)) →
    ∃ acc' E', E'.length = j ∧ I (done ++ todo) acc' E' ∧ compL t c e vs j none all (todo.map enc) sl (E ++ [.lst acc]) = .ok () (E' ++ [.lst acc'])
  | [], done, acc, E, hE, h0, _ => ⟨acc, E, hE, by simpa using h0, by simp [compL, unlR, LockOk]⟩
  | x :: xs, done, acc, E, hE, h0, h => by
    obtain ⟨ha, o, E', h1, h2, h3⟩ := h done x xs acc E rfl hE h0
    have ih := fun acc' hI => compL_st (t := t) (c := c) (e := e) (vs := vs) (sl := sl) (all := all) I xs (done ++ [x]) acc' E' h2 hI (fun d y r acc E e => h d y r acc E (by simpa using e))
    unfold CTurn at h1
    rw [List.map_cons]
    unfold compL
    rw [if_pos (show LockOk none all (E ++ [.lst acc]) from trivial)]
    cases e1 : t (.t (enc x)) (wipeS sl vs) (E ++ [.lst acc]) with
    | bad => rw [e1] at h1; cases h1
    | ex y cs1 => rw [e1] at h1; cases h1
    | ok sl1 cs1 =>
      rw [e1] at h1
      simp only at h1 ⊢
      cases e2 : c sl1 cs1 with
      | bad => rw [e2] at h1; cases h1
      | ex y cs1 => rw [e2] at h1; cases h1
      | ok b cs2 =>
        rw [e2] at h1
        cases b with
        | false =>
          simp only at h1 ⊢
          obtain ⟨hb, hc⟩ := R.ok.inj h1
          subst hb
          subst hc
          obtain ⟨acc', E2, q1, q2, q3⟩ := ih acc h3
          exact ⟨acc', E2, q1, by simpa using q2, q3⟩
        | true =>
          simp only at h1 ⊢
          cases e3 : e sl1 cs2 with
          | bad => rw [e3] at h1; cases h1
          | ex y cs1 => rw [e3] at h1; cases h1
          | ok v cs3 =>
            rw [e3] at h1
            simp only at h1 ⊢
            obtain ⟨hb, hc⟩ := R.ok.inj h1
            subst hb
            subst hc
            cases v with
            | c i => exact h3.elim
            | x y => exact h3.elim
            | t u =>
              have a : appC (.c j) (.t u) (E' ++ [.lst acc]) = .ok (.t .none) (E' ++ [.lst (acc ++ [u])]) := by
                subst h2
                simp [appC, take1, ha]
              rw [a]
              simp only
              obtain ⟨acc', E2, q1, q2, q3⟩ := ih (acc ++ [u]) h3
              exact ⟨acc', E2, q1, by simpa using q2, q3⟩
theorem dComp_st {α : Type} (xs : List α) (enc : α → T) (I : List α → List T → Cs → Prop) {it : DI} {t : DG} {c : D Bool} {e : D SV} {vs : List Nat} {sl : Sl} {cs cs1 : Cs} (hi : it sl cs = .ok (xs.map enc, none) cs1) (h0 : I [] [] cs1)
    (h : ∀ d x r acc E, xs = d ++ x :: r → E.length = cs1.length → I d acc E → acc.length < sizeLine ∧ ∃ o E', CTurn t c e vs (enc x) sl (E ++ [.lst acc]) = .ok o (E' ++ [.lst acc]) ∧ E'.length = cs1.length ∧ (match o with | none => I (d ++ [x]) acc E' | some (.t v) => I (d ++ [x]) (acc ++ [v]) E' | _ => False)) :
    ∃ acc E, E.length = cs1.length ∧ I xs acc E ∧ dComp it t c e vs sl cs = .ok (.t (.list acc)) E := by
  obtain ⟨acc, E, h1, h2, h3⟩ := compL_st (t := t) (c := c) (e := e) (vs := vs) (sl := sl) (all := xs.map enc) I xs [] [] cs1 rfl h0 (fun d x r acc E q => h d x r acc E (by simpa using q))
  refine ⟨acc, E, h1, by simpa using h2, ?_⟩
  unfold dComp
  rw [hi]
  simp only [R.bind]
  rw [h3]
  rw [← h1]
  simp
end Mi
set_option Elab.async false
set_option linter.all false
set_option autoImplicit false
set_option maxRecDepth 100000
set_option maxHeartbeats 1000000
namespace Mi
open PySem PySem.Spec PyProof.Rows L2
theorem nm_ok (s : Str) (n : Nat) (hl : s.length = n) (h1 : 1 ≤ n ∧ n ≤ 8) (a : Nat) (h2 : s.cps.toList[0]? = some a) (h3 : hasT (.str ⟨#[a]⟩) (.str "abcdefghijklmnopqrstuvwxyz") = some true) (h4 : ∀ ch ∈ s.cps.toList, hasT (.str ⟨#[ch]⟩) (.str "abcdefghijklmnopqrstuvwxyz0123456789") = some true) : NmOk s := by
  intro cs
  have hsz : s.length ≤ sizeLine := sz_of (by omega)
  have hlen : lenT (.str s) = some (.int (n : Nat)) := by simp only [lenT]; rw [if_pos hsz, hl]
  have hsl : s.cps.size = n := hl
  have hidx : idxT (.str s) (.int 0) = some (.str ⟨#[a]⟩) := by
    have : s.cps.size ≠ 0 := by omega
    simp only [idxT, hsz, if_true, atI]
    rw [show ixN s.cps.toList.length 0 = some 0 by unfold ixN; rw [if_pos (by omega), if_pos (by simp; omega)]; rfl]
    simp only [Option.bind_some, h2, Option.map_some]
  have hin : ∀ a, hasT (.str ⟨#[a]⟩) (.str "abcdefghijklmnopqrstuvwxyz") = some true → inO (.str ⟨#[a]⟩) (.str "abcdefghijklmnopqrstuvwxyz") = some (.bool true) := fun a h => by simp [inO, h]
  have hin2 : ∀ a, hasT (.str ⟨#[a]⟩) (.str "abcdefghijklmnopqrstuvwxyz0123456789") = some true → inO (.str ⟨#[a]⟩) (.str "abcdefghijklmnopqrstuvwxyz0123456789") = some (.bool true) := fun a h => by simp [inO, h]
  have q1 : ((1 : Int) ≤ (n : Nat)) := by omega
  have q2 : (((n : Nat) : Int) ≤ 8) := by omega
  apply run_go
  simp [tyName, hlen, q1, q2, hidx, hin a h3]
  have q3 : ¬ n = 0 := by omega
  have q4 : ¬ (8 : Int) < (n : Nat) := by omega
  try simp [q3, q4]
  rw [dComp_map s.cps.toList (fun ch => .str ⟨#[ch]⟩) (fun _ => .bool true) (by simp [signT]) (by
    intro ch hch d _ _
    simp [hin2 ch (h4 ch hch)]) (sz_of (by simp; omega))]
  simp
theorem nm_a : NmOk "a" := nm_ok _ 1 (by decide +kernel) (by decide) 97 (by decide +kernel) (by decide +kernel) (by decide +kernel)
theorem nm_b : NmOk "b" := nm_ok _ 1 (by decide +kernel) (by decide) 98 (by decide +kernel) (by decide +kernel) (by decide +kernel)
theorem nm_c : NmOk "c" := nm_ok _ 1 (by decide +kernel) (by decide) 99 (by decide +kernel) (by decide +kernel) (by decide +kernel)
theorem nm_s0 : NmOk "s0" := nm_ok _ 2 (by decide +kernel) (by decide) 115 (by decide +kernel) (by decide +kernel) (by decide +kernel)
theorem nm_s1 : NmOk "s1" := nm_ok _ 2 (by decide +kernel) (by decide) 115 (by decide +kernel) (by decide +kernel) (by decide +kernel)
theorem nm_p0 : NmOk "p0" := nm_ok _ 2 (by decide +kernel) (by decide) 112 (by decide +kernel) (by decide +kernel) (by decide +kernel)
theorem nm_p1 : NmOk "p1" := nm_ok _ 2 (by decide +kernel) (by decide) 112 (by decide +kernel) (by decide +kernel) (by decide +kernel)
theorem nm_p2 : NmOk "p2" := nm_ok _ 2 (by decide +kernel) (by decide) 112 (by decide +kernel) (by decide +kernel) (by decide +kernel)
theorem nm_k0 : NmOk "k0" := nm_ok _ 2 (by decide +kernel) (by decide) 107 (by decide +kernel) (by decide +kernel) (by decide +kernel)
theorem nm_k1 : NmOk "k1" := nm_ok _ 2 (by decide +kernel) (by decide) 107 (by decide +kernel) (by decide +kernel) (by decide +kernel)
theorem nm_k2 : NmOk "k2" := nm_ok _ 2 (by decide +kernel) (by decide) 107 (by decide +kernel) (by decide +kernel) (by decide +kernel)
/-- the names of streets, ploughs -/
def sN : Nat → Str
  | 0 => "s0"
  | _ => "s1"
def pN : Nat → Str
  | 0 => "p0"
  | 1 => "p1"
  | _ => "p2"
theorem sN_ok (i : Nat) : NmOk (sN i) ∧ Low (sN i) := by
  unfold sN
  split
  · exact ⟨nm_s0, by unfold Low; decide +kernel⟩
  · exact ⟨nm_s1, by unfold Low; decide +kernel⟩
theorem pN_ok (i : Nat) : NmOk (pN i) ∧ Low (pN i) := by
  unfold pN
  split
  · exact ⟨nm_p0, by unfold Low; decide +kernel⟩
  · exact ⟨nm_p1, by unfold Low; decide +kernel⟩
  · exact ⟨nm_p2, by unfold Low; decide +kernel⟩
theorem str_num (i : Nat) (h : i ≤ 2) : strT (.int (i : Nat)) = some (.str (toString (i : Int))) := by
  have : ((i : Nat) : Int).natAbs.log2 < 1920 := by
    have : i = 0 ∨ i = 1 ∨ i = 2 := by omega
    rcases this with rfl | rfl | rfl <;> decide
  simp only [strT]
  rw [if_pos this]
theorem add_s (i : Nat) (h : i ≤ 1) : addT (.str "s") (.str (toString (i : Int))) = some (.str (sN i)) := by
  have : i = 0 ∨ i = 1 := by omega
  rcases this with rfl | rfl
  · have h1 : (("s" : Str).length + (Str.ofString (toString ((0 : Nat) : Int))).length ≤ sizeLine) := by decide +kernel
    have h2 : ("s" : Str) ++ Str.ofString (toString ((0 : Nat) : Int)) = sN 0 := by decide +kernel
    simp only [addT]
    rw [if_pos h1, h2]
  · have h1 : (("s" : Str).length + (Str.ofString (toString ((1 : Nat) : Int))).length ≤ sizeLine) := by decide +kernel
    have h2 : ("s" : Str) ++ Str.ofString (toString ((1 : Nat) : Int)) = sN 1 := by decide +kernel
    simp only [addT]
    rw [if_pos h1, h2]
theorem add_p (i : Nat) (h : i ≤ 2) : addT (.str "p") (.str (toString (i : Int))) = some (.str (pN i)) := by
  have : i = 0 ∨ i = 1 ∨ i = 2 := by omega
  rcases this with rfl | rfl | rfl
  · have h1 : (("p" : Str).length + (Str.ofString (toString ((0 : Nat) : Int))).length ≤ sizeLine) := by decide +kernel
    have h2 : ("p" : Str) ++ Str.ofString (toString ((0 : Nat) : Int)) = pN 0 := by decide +kernel
    simp only [addT]
    rw [if_pos h1, h2]
  · have h1 : (("p" : Str).length + (Str.ofString (toString ((1 : Nat) : Int))).length ≤ sizeLine) := by decide +kernel
    have h2 : ("p" : Str) ++ Str.ofString (toString ((1 : Nat) : Int)) = pN 1 := by decide +kernel
    simp only [addT]
    rw [if_pos h1, h2]
  · have h1 : (("p" : Str).length + (Str.ofString (toString ((2 : Nat) : Int))).length ≤ sizeLine) := by decide +kernel
    have h2 : ("p" : Str) ++ Str.ofString (toString ((2 : Nat) : Int)) = pN 2 := by decide +kernel
    simp only [addT]
    rw [if_pos h1, h2]
theorem sName (i : Nat) (h : i ≤ 1) : ∃ w, strT (.int (i : Nat)) = some (.str w) ∧ addT (.str "s") (.str w) = some (.str (sN i)) := ⟨_, str_num i (by omega), add_s i h⟩
theorem pName (i : Nat) (h : i ≤ 2) : ∃ w, strT (.int (i : Nat)) = some (.str w) ∧ addT (.str "p") (.str w) = some (.str (pN i)) := ⟨_, str_num i (by omega), add_p i h⟩
theorem next_to (ns : List Int) (n k : Nat) (bound : Int) (hk : k = n + 1) (hn : n ≤ 100000) (hb : 1 ≤ bound) : ∃ v : Int, 0 ≤ v ∧ v < bound ∧ ∀ r, F__law_next [.c 0, .t (.int bound)] (DrC ns n :: r) = .ok (.t (.int v)) (DrC ns k :: r) := by
  subst hk; exact next_spec hn hb
theorem pickT_to {α : Type} (ns : List Int) (n k : Nat) (xs : List α) (f : α → T) (hk : k = n + 1) (hn : n ≤ 100000) (hl : xs ≠ []) : ∃ x ∈ xs, ∀ r, F__law_pick [.c 0, .t (.tuple (xs.map f))] (DrC ns n :: r) = .ok (.t (f x)) (DrC ns k :: r) := by
  subst hk; exact pick_tm ns n f hn hl
theorem pickL_to {α : Type} (ns : List Int) (n k : Nat) (xs : List α) (f : α → T) (hk : k = n + 1) (hn : n ≤ 100000) (hl : xs ≠ []) : ∃ x ∈ xs, ∀ r, F__law_pick [.c 0, .t (.list (xs.map f))] (DrC ns n :: r) = .ok (.t (f x)) (DrC ns k :: r) := by
  subst hk; exact pick_lm ns n f hn hl
theorem hours_to (ns : List Int) (n k : Nat) {day : Int} (hk : k = n + 1) (hn : n ≤ 100000) (hd : 1 ≤ day ∧ day ≤ 60) : ∃ h : List (Int × Int), h.length ≤ 6 ∧ hrsOk day (-1) h ∧ ∀ r, F__law_hours [.c 0, .t (.int day)] (DrC ns n :: r) = .ok (.t (.tuple (h.map eH))) (DrC ns k :: r) := by
  subst hk; exact hours_spec ns n hn hd
end Mi
set_option Elab.async false
set_option linter.all false
set_option autoImplicit false
set_option maxRecDepth 100000
set_option maxHeartbeats 1000000
namespace Mi
open PySem PySem.Spec PyProof.Rows L2
structure JsD (js : List Str) : Prop where
  is : js = [("a" : Str), ("b" : Str)] ∨ js = [("a" : Str), ("b" : Str), ("c" : Str)]
theorem ab : ("a" : Str) ≠ "b" := by decide +kernel
theorem ac : ("a" : Str) ≠ "c" := by decide +kernel
theorem bc : ("b" : Str) ≠ "c" := by decide +kernel
theorem JsD.nodup {js : List Str} (h : JsD js) : js.Nodup := by
  rcases h.is with rfl | rfl
  · simp [ab]
  · simp [ab, ac, bc]
theorem JsD.low {js : List Str} (h : JsD js) : ∀ j ∈ js, Low j := by
  have ha : Low "a" := by unfold Low; decide +kernel
  have hb : Low "b" := by unfold Low; decide +kernel
  have hc : Low "c" := by unfold Low; decide +kernel
  rcases h.is with rfl | rfl
  · simp [ha, hb]
  · simp [ha, hb, hc]
theorem JsD.nm {js : List Str} (h : JsD js) : ∀ j ∈ js, NmOk j := by
  rcases h.is with rfl | rfl
  · simp [nm_a, nm_b]
  · simp [nm_a, nm_b, nm_c]
theorem JsD.len {js : List Str} (h : JsD js) : 2 ≤ js.length ∧ js.length ≤ 3 := by
  rcases h.is with rfl | rfl <;> simp
theorem JsD.other {js : List Str} (h : JsD js) (one : Str) : js.filter (fun j => !decide (j = one)) ≠ [] := by
  have : ("a" : Str) ∈ js ∧ ("b" : Str) ∈ js := by rcases h.is with rfl | rfl <;> simp
  intro e
  rw [List.filter_eq_nil_iff] at e
  have h1 := e _ this.1
  have h2 := e _ this.2
  simp at h1 h2
  exact ab (h1.trans h2.symm)
structure StreetD (js : List Str) (day : Int) (s : Stt) : Prop where
  one : s.one ∈ js
  oth : s.oth ∈ js
  ne : s.one ≠ s.oth
  go : 1 ≤ s.go ∧ s.go ≤ 9
  wk : s.go ≤ s.wk ∧ s.wk ≤ 20
  lim : 0 ≤ s.lim ∧ s.lim ≤ 9
  hl : s.hrs.length ≤ 6
  hr : hrsOk day (-1) s.hrs
theorem street_turn {ns : List Int} {m i : Nat} {js : List Str} {day : Int} {ss : List Stt} {u2 u3 u7 u8 u9 u10 u11 u12 u13 : Option SV} {I : Sl → Cs → Prop} {P : RS → Prop} (hj : JsD js) (hd : 1 ≤ day ∧ day ≤ 60) (hm : m ≤ 5000) (hi : i ≤ 1) (hss : ss.length ≤ 100)
    (hI : ∀ s u8 u9 u10, s.nm = sN i → StreetD js day s → I [some (.c 0), some (.t (.int 3)), some (.t (.int (i : Nat))), u3, some (.t (.int day)), some (.t (.tuple (js.map .str))), some (.c 1), u7, u8, u9, u10, u11, u12, u13] [DrC ns (m + 7), .lst ((ss ++ [s]).map eS)]) :
    Go I P (Turn (tgName 2) (dSeq (dAsg (dCall F__law_pick (dCons (dVar 0) (dCons (dVar 5) (dNil)))) (tgName 8)) (dSeq (dAsg (dCall F__law_pick (dCons (dVar 0) (dCons (dComp (dIter (dVar 5)) (tgName 13) (dTest (dBin (op2 neO) (dVar 13) (dVar 8))) (dVar 13) [13]) (dNil)))) (tgName 9)) (dSeq (dAsg (dAdd (dC (.int 1)) (dFdiv (dCall F__law_next (dCons (dVar 0) (dCons (dC (.int 2)) (dNil)))) (dAdd (dC (.int 1)) (dCall F__law_next (dCons (dVar 0) (dCons (dC (.int 2)) (dNil))))))) (tgName 10)) (dSeq (dExpr (dApp (dVar 6) (dTup (dCons (dAdd (dC (.str "s")) (dUn strT (dVar 2))) (dCons (dVar 8) (dCons (dVar 9) (dCons (dVar 10) (dCons (dAdd (dVar 10) (dCall F__law_next (dCons (dVar 0) (dCons (dC (.int 2)) (dNil))))) (dCons (dFdiv (dCall F__law_next (dCons (dVar 0) (dCons (dC (.int 5)) (dNil)))) (dC (.int 2))) (dCons (dCall F__law_hours (dCons (dVar 0) (dCons (dVar 4) (dNil)))) (dNil))))))))))) (dSkip)))))
      (.int (i : Nat)) [some (.c 0), some (.t (.int 3)), u2, u3, some (.t (.int day)), some (.t (.tuple (js.map .str))), some (.c 1), u7, u8, u9, u10, u11, u12, u13] [DrC ns m, .lst (ss.map eS)]) := by
  have hjl := hj.len
  obtain ⟨one, h1, e1⟩ := pickT_to ns m (m + 1) js PyData.str rfl (by omega) (by intro e; rw [e] at hjl; simp at hjl)
  obtain ⟨oth, h2, e2⟩ := pickL_to ns (m + 1) (m + 2) (js.filter (fun j => !decide (j = one))) PyData.str rfl (by omega) (hj.other one)
  obtain ⟨v1, h3a, h3b, e3⟩ := next_to ns (m + 2) (m + 3) 2 rfl (by omega) (by omega)
  obtain ⟨v2, h4a, h4b, e4⟩ := next_to ns (m + 3) (m + 4) 2 rfl (by omega) (by omega)
  obtain ⟨v3, h5a, h5b, e5⟩ := next_to ns (m + 4) (m + 5) 2 rfl (by omega) (by omega)
  obtain ⟨v4, h6a, h6b, e6⟩ := next_to ns (m + 5) (m + 6) 5 rfl (by omega) (by omega)
  obtain ⟨hr, h7a, h7b, e7⟩ := hours_to ns (m + 6) (m + 7) (day := day) rfl (by omega) hd
  obtain ⟨w, hw1, hw2⟩ := sName i hi
  have hv2 : fdivT (.int v1) (.int (1 + v2)) = some (.int (v1 / (1 + v2))) := by
    have : v2 = 0 ∨ v2 = 1 := by omega
    rcases this with rfl | rfl <;> (rw [x_fdivI, if_pos ⟨by decide, by decide⟩])
  have hv4 : fdivT (.int v4) (.int 2) = some (.int (v4 / 2)) := by rw [x_fdivI, if_pos ⟨by decide, by decide⟩]
  have hgo : 0 ≤ v1 / (1 + v2) ∧ v1 / (1 + v2) ≤ 1 := by
    have a : v2 = 0 ∨ v2 = 1 := by omega
    have b : v1 = 0 ∨ v1 = 1 := by omega
    rcases a with rfl | rfl <;> rcases b with rfl | rfl <;> decide
  generalize v1 / (1 + v2) = g at *
  have hl4 : 0 ≤ v4 / 2 ∧ v4 / 2 ≤ 2 := by omega
  generalize v4 / 2 = l at *
  have hsl : ss.length < sizeLine := by have := sz_of (n := 1000) (by omega); omega
  rw [List.mem_filter] at h2
  have hne : one ≠ oth := by intro e; subst e; simp at h2
  have q := hI ⟨sN i, one, oth, 1 + g, 1 + g + v3, l, hr⟩ (some (.t (.str one))) (some (.t (.str oth))) (some (.t (.int (1 + g)))) rfl ⟨h1, h2.1, hne, by simp only; omega, by simp only; omega, by simp only; omega, h7a, h7b⟩
  have ef : ∀ d, dComp (dIter (dVar 5)) (tgName 13) (dTest (dBin (op2 neO) (dVar 13) (dVar 8))) (dVar 13) [13] [some (.c 0), some (.t (.int 3)), some (.t (.int (i : Nat))), u3, some (.t (.int day)), some (.t (.tuple (js.map .str))), some (.c 1), u7, some (.t (.str one)), u9, u10, u11, u12, u13] d = .ok (.t (.list ((js.filter (fun j => !decide (j = one))).map .str))) d := by
    intro d
    rw [dComp_enc js .str (fun j => if !decide (j = one) then some (.str j) else none) (by simp) (by
      intro j hj d _ _
      by_cases hh : j = one <;> simp [hh]) (sz_of (by have := List.length_filterMap_le (fun j => if !decide (j = one) then some (PyData.str j) else none) js; omega))]
    rw [fm_filter]
  rw [x_turn, x_tgName, x_bindS_ok]
  rw [x_seq_asg]
  have c1 : dCall F__law_pick (dCons (dVar 0) (dCons (dVar 5) (dNil))) ([some (.c 0), some (.t (.int 3)), u2, u3, some (.t (.int day)), some (.t (.tuple (js.map .str))), some (.c 1), u7, u8, u9, u10, u11, u12, u13].set 2 (some (.t (.int (i : Nat))))) [DrC ns m, .lst (ss.map eS)] = .ok (.t (.str one)) [DrC ns (m + 1), .lst (ss.map eS)] := by simp [e1]
  rw [c1, x_bindS_ok, x_tgName, x_bindS_ok, x_seq_asg]
  rw [show dCall F__law_pick (dCons (dVar 0) (dCons (dComp (dIter (dVar 5)) (tgName 13) (dTest (dBin (op2 neO) (dVar 13) (dVar 8))) (dVar 13) [13]) (dNil))) (([some (.c 0), some (.t (.int 3)), u2, u3, some (.t (.int day)), some (.t (.tuple (js.map .str))), some (.c 1), u7, u8, u9, u10, u11, u12, u13].set 2 (some (.t (.int (i : Nat))))).set 8 (some (.t (.str one)))) [DrC ns (m + 1), .lst (ss.map eS)] = .ok (.t (.str oth)) [DrC ns (m + 2), .lst (ss.map eS)] by
    simp [ef, e2]]
  rw [x_bindS_ok, x_tgName, x_bindS_ok]
  simp [-x_fdivI, e3, e4, hv2, e5, e6, hv4, e7, hsl, hw1, hw2]
  simp [eS] at q
  exact q
end Mi
set_option Elab.async false
set_option linter.all false
set_option autoImplicit false
set_option maxRecDepth 100000
set_option maxHeartbeats 1000000
namespace Mi
open PySem PySem.Spec PyProof.Rows L2
theorem rng1_to {a : D SV} {sl : Sl} {cs cs1 : Cs} {n : Nat} (h : a sl cs = .ok (.t (.int (n : Nat))) cs1) (hn : n ≤ 1000) : dRng1 a sl cs = .ok ((List.range n).map fun i => .int (i : Nat), none) cs1 := by
  have q1 : -(2 ^ 62) ≤ (n : Int) := by omega
  have q2 : (n : Int) < 2 ^ 62 := by omega
  rw [x_rng1, h, x_bind_ok, x_res]
  simp only
  rw [if_pos ⟨q1, q2⟩]
  unfold rngT
  congr 2
  simp
theorem un_names (a b : Nat) (ha : a ≤ 2) (hb : b ≤ 3) : ((List.range a).map sN ++ (List.range b).map pN).Nodup := by
  have h1 : a = 0 ∨ a = 1 ∨ a = 2 := by omega
  have h2 : b = 0 ∨ b = 1 ∨ b = 2 ∨ b = 3 := by omega
  rcases h1 with rfl | rfl | rfl <;> rcases h2 with rfl | rfl | rfl | rfl <;> decide +kernel
structure CityD (c : Cty) : Prop where
  ok : CityOk c
  cok : Cok c
  s1 : 1 ≤ c.ss.length ∧ c.ss.length ≤ 2
  zz : ¬ ("zz" : Str) ∈ c.js
  js : JsD c.js
  ab : ∃ a b, (1 ≤ a ∧ a ≤ 2) ∧ (1 ≤ b ∧ b ≤ 3) ∧ c.ss.map (·.nm) = (List.range a).map sN ∧ c.ps.map (·.1) = (List.range b).map pN
def CP (ns : List Int) (n : Nat) (o : RS) : Prop := ∃ c n', CityD c ∧ n' ≤ n + 100 ∧ Fin_ 1 (.ok (.t (eC c)) [DrC ns n']) o
theorem city_d {js : List Str} {day late falls : Int} {ss : List Stt} {ps : List (Str × Str)} {a b : Nat} (hj : JsD js) (hd : 1 ≤ day ∧ day ≤ 60) (ha : 1 ≤ a ∧ a ≤ 2) (hb : 1 ≤ b ∧ b ≤ 3) (h1 : ss.map (·.nm) = (List.range a).map sN) (h2 : ∀ s ∈ ss, StreetD js day s) (h3 : ps.map (·.1) = (List.range b).map pN) (h4 : ∀ p ∈ ps, p.2 ∈ js) (hl : 0 ≤ late ∧ late ≤ 5) (hf : 0 ≤ falls ∧ falls ≤ 1) : CityD ⟨js, ss, ps, day, late, falls⟩ := by
  have l1 : ss.length = a := by simpa using congrArg List.length h1
  have l2 : ps.length = b := by simpa using congrArg List.length h3
  have hjl := hj.len
  have nm1 : ∀ s ∈ ss, NmOk s.nm ∧ Low s.nm := by
    intro s hs
    have : s.nm ∈ (List.range a).map sN := by rw [← h1]; exact List.mem_map.mpr ⟨s, hs, rfl⟩
    obtain ⟨i, _, e⟩ := List.mem_map.mp this
    rw [← e]
    exact sN_ok i
  have nm2 : ∀ p ∈ ps, NmOk p.1 ∧ Low p.1 := by
    intro p hp
    have : p.1 ∈ (List.range b).map pN := by rw [← h3]; exact List.mem_map.mpr ⟨p, hp, rfl⟩
    obtain ⟨i, _, e⟩ := List.mem_map.mp this
    rw [← e]
    exact pN_ok i
  refine ⟨⟨hj.low, by simp only; omega, hj.nm, hj.nodup, by simp only; omega, fun p hp => ⟨(nm2 p hp).1, h4 p hp⟩, hd, hl, by simp only; omega, by simp only; omega, fun s hs => ?_, ?_⟩, ⟨hj.low, fun s hs => ⟨(nm1 s hs).2, hj.low _ (h2 s hs).one, hj.low _ (h2 s hs).oth⟩, by simp only; omega, by simp only; omega⟩, by simp only; omega, ?_, hj, a, b, ha, hb, h1, h3⟩
  · have q := h2 s hs
    exact ⟨(nm1 s hs).1, q.one, q.oth, q.ne, q.go, q.wk, q.lim, q.hl, q.hr⟩
  · simp only [h1, h3]
    exact un_names a b ha.2 hb.2
  · rcases hj.is with rfl | rfl
    · show ¬ ("zz" : Str) ∈ [("a" : Str), ("b" : Str)]
      decide +kernel
    · show ¬ ("zz" : Str) ∈ [("a" : Str), ("b" : Str), ("c" : Str)]
      decide +kernel
theorem city_end {ns : List Int} {n m a b : Nat} {js : List Str} {day : Int} {ss : List Stt} {u2 u8 u9 u10 : Option SV} (hj : JsD js) (hd : 1 ≤ day ∧ day ≤ 60) (ha : 1 ≤ a ∧ a ≤ 2) (hb : 1 ≤ b ∧ b ≤ 3) (hm : m ≤ n + 50) (hn : n ≤ 1000) (h1 : ss.map (·.nm) = (List.range a).map sN) (h2 : ∀ s ∈ ss, StreetD js day s) :
    CP ns n (dSeq (dAsg (dUn tupleT (dComp (dRng1 (dVar 7)) (tgName 2) (dYes) (dTup (dCons (dAdd (dC (.str "p")) (dUn strT (dVar 2))) (dCons (dCall F__law_pick (dCons (dVar 0) (dCons (dVar 5) (dNil)))) (dNil)))) [2])) (tgName 3)) (dSeq (dPar 11 12 (dCons (dFdiv (dCall F__law_next (dCons (dVar 0) (dCons (dC (.int 4)) (dNil)))) (dC (.int 3))) (dCons (dFdiv (dCall F__law_next (dCons (dVar 0) (dCons (dC (.int 5)) (dNil)))) (dC (.int 4))) (dNil)))) (dSeq (dRet (dTup (dCons (dVar 5) (dCons (dUn tupleT (dVar 6)) (dCons (dVar 3) (dCons (dTup (dCons (dVar 4) (dCons (dVar 11) (dCons (dVar 12) (dNil))))) (dNil))))))) (dSkip)))
      [some (.c 0), some (.t (.int 3)), u2, none, some (.t (.int day)), some (.t (.tuple (js.map .str))), some (.c 1), some (.t (.int (b : Nat))), u8, u9, u10, none, none, none] [DrC ns m, .lst (ss.map eS)]) := by
  have hjl := hj.len
  obtain ⟨acc, E, e1, ⟨ps, m', e2, e3, e4, e5, e6⟩, e7⟩ := dComp_st (cs1 := [DrC ns m, .lst (ss.map eS)]) (t := tgName 2) (c := dYes) (e := dTup (dCons (dAdd (dC (.str "p")) (dUn strT (dVar 2))) (dCons (dCall F__law_pick (dCons (dVar 0) (dCons (dVar 5) (dNil)))) (dNil)))) (vs := [2]) (sl := [some (.c 0), some (.t (.int 3)), u2, none, some (.t (.int day)), some (.t (.tuple (js.map .str))), some (.c 1), some (.t (.int (b : Nat))), u8, u9, u10, none, none, none]) (List.range b) (fun i => .int (i : Nat))
    (fun d acc E => ∃ (ps : List (Str × Str)) (m' : Nat), ps.map (·.1) = d.map pN ∧ (∀ p ∈ ps, p.2 ∈ js) ∧ acc = ps.map eP ∧ E = [DrC ns m', .lst (ss.map eS)] ∧ m' ≤ m + d.length) (it := dRng1 (dVar 7)) (cs := [DrC ns m, .lst (ss.map eS)]) (rng1_to (by simp) (by omega)) ⟨[], m, by simp, by simp, rfl, rfl, by simp⟩ (by
      rintro d i r acc E eq _ ⟨ps, m', q1, q2, rfl, rfl, q5⟩
      have hdl := congrArg List.length eq
      simp at hdl
      have hi : i ≤ 2 := by
        have : i ∈ List.range b := mid_mem eq
        rw [List.mem_range] at this
        omega
      have hpl : ps.length = d.length := by simpa using congrArg List.length q1
      obtain ⟨j, hjm, ej⟩ := pickT_to ns m' (m' + 1) js PyData.str rfl (by omega) (by intro e; rw [e] at hjl; simp at hjl)
      obtain ⟨w, hw1, hw2⟩ := pName i hi
      refine ⟨by rw [List.length_map]; have := sz_of (n := 1000) (by omega); omega, some (.t (eP (pN i, j))), [DrC ns (m' + 1), .lst (ss.map eS)], ?_, rfl, ps ++ [(pN i, j)], m' + 1, by simp [q1], by simp; rintro a b (h | ⟨rfl, rfl⟩); exact q2 (a, b) h; exact hjm, by simp, rfl, by simp; omega⟩
      simp [hw1, hw2, ej, eP])
  subst e4
  subst e5
  rw [List.length_range] at e6
  obtain ⟨v1, a1, a2, f1⟩ := next_to ns m' (m' + 1) 4 rfl (by omega) (by omega)
  obtain ⟨v2, b1, b2, f2⟩ := next_to ns (m' + 1) (m' + 2) 5 rfl (by omega) (by omega)
  have d1 : fdivT (.int v1) (.int 3) = some (.int (v1 / 3)) := by rw [x_fdivI, if_pos ⟨by decide, by decide⟩]
  have d2 : fdivT (.int v2) (.int 4) = some (.int (v2 / 4)) := by rw [x_fdivI, if_pos ⟨by decide, by decide⟩]
  have hD := city_d (late := v1 / 3) (falls := v2 / 4) hj hd ha hb h1 h2 e2 e3 (by omega) (by omega)
  rw [x_seq_asg, x_un, e7]
  simp [-x_fdivI, f1, f2, d1, d2]
  exact ⟨_, m' + 2, hD, by omega, by simp [eC]⟩
theorem city_mid {ns : List Int} {n N b : Nat} {js : List Str} {day : Int} (hj : JsD js) (hd : 1 ≤ day ∧ day ≤ 60) (hb : 1 ≤ b ∧ b ≤ 3) (hN : N ≤ n + 4) (hn : n ≤ 1000) :
    CP ns n (dSeq (dFor (dRng1 (dIf (dTest (dBin (op2 gtT) (dVar 7) (dC (.int 1)))) (dC (.int 1)) (dAdd (dC (.int 1)) (dCall F__law_next (dCons (dVar 0) (dCons (dC (.int 2)) (dNil))))))) (tgName 2) (dSeq (dAsg (dCall F__law_pick (dCons (dVar 0) (dCons (dVar 5) (dNil)))) (tgName 8)) (dSeq (dAsg (dCall F__law_pick (dCons (dVar 0) (dCons (dComp (dIter (dVar 5)) (tgName 13) (dTest (dBin (op2 neO) (dVar 13) (dVar 8))) (dVar 13) [13]) (dNil)))) (tgName 9)) (dSeq (dAsg (dAdd (dC (.int 1)) (dFdiv (dCall F__law_next (dCons (dVar 0) (dCons (dC (.int 2)) (dNil)))) (dAdd (dC (.int 1)) (dCall F__law_next (dCons (dVar 0) (dCons (dC (.int 2)) (dNil))))))) (tgName 10)) (dSeq (dExpr (dApp (dVar 6) (dTup (dCons (dAdd (dC (.str "s")) (dUn strT (dVar 2))) (dCons (dVar 8) (dCons (dVar 9) (dCons (dVar 10) (dCons (dAdd (dVar 10) (dCall F__law_next (dCons (dVar 0) (dCons (dC (.int 2)) (dNil))))) (dCons (dFdiv (dCall F__law_next (dCons (dVar 0) (dCons (dC (.int 5)) (dNil)))) (dC (.int 2))) (dCons (dCall F__law_hours (dCons (dVar 0) (dCons (dVar 4) (dNil)))) (dNil))))))))))) (dSkip))))))
      (dSeq (dAsg (dUn tupleT (dComp (dRng1 (dVar 7)) (tgName 2) (dYes) (dTup (dCons (dAdd (dC (.str "p")) (dUn strT (dVar 2))) (dCons (dCall F__law_pick (dCons (dVar 0) (dCons (dVar 5) (dNil)))) (dNil)))) [2])) (tgName 3)) (dSeq (dPar 11 12 (dCons (dFdiv (dCall F__law_next (dCons (dVar 0) (dCons (dC (.int 4)) (dNil)))) (dC (.int 3))) (dCons (dFdiv (dCall F__law_next (dCons (dVar 0) (dCons (dC (.int 5)) (dNil)))) (dC (.int 4))) (dNil)))) (dSeq (dRet (dTup (dCons (dVar 5) (dCons (dUn tupleT (dVar 6)) (dCons (dVar 3) (dCons (dTup (dCons (dVar 4) (dCons (dVar 11) (dCons (dVar 12) (dNil))))) (dNil))))))) (dSkip))))
      [some (.c 0), some (.t (.int 3)), none, none, some (.t (.int day)), some (.t (.tuple (js.map .str))), some (.c 1), some (.t (.int (b : Nat))), none, none, none, none, none, none] [DrC ns N, .lst []]) := by
  obtain ⟨v, v1, v2, ev⟩ := next_to ns N (N + 1) 2 rfl (by omega) (by omega)
  obtain ⟨a, N1, ha, hN1, hit⟩ : ∃ a N1 : Nat, (1 ≤ a ∧ a ≤ 2) ∧ N1 ≤ n + 5 ∧ (dIf (dTest (dBin (op2 gtT) (dVar 7) (dC (.int 1)))) (dC (.int 1)) (dAdd (dC (.int 1)) (dCall F__law_next (dCons (dVar 0) (dCons (dC (.int 2)) (dNil)))))) [some (.c 0), some (.t (.int 3)), none, none, some (.t (.int day)), some (.t (.tuple (js.map .str))), some (.c 1), some (.t (.int (b : Nat))), none, none, none, none, none, none] [DrC ns N, .lst []] = .ok (.t (.int (a : Nat))) [DrC ns N1, .lst []] := by
    by_cases hq : (1 : Int) < (b : Nat)
    · exact ⟨1, N, by omega, by omega, by simp only [x_if, x_test, x_bin, x_var, List.getElem?_cons_succ, List.getElem?_cons_zero, x_bind_ok, x_c, x_op2, x_res, x_gt, hq, decide_true, if_true]; rfl⟩
    · obtain ⟨k, rfl⟩ : ∃ k : Nat, v = (k : Int) := ⟨v.toNat, by omega⟩
      refine ⟨1 + k, N + 1, by omega, by omega, by simp only [x_if, x_test, x_bin, x_var, List.getElem?_cons_succ, List.getElem?_cons_zero, x_bind_ok, x_c, x_op2, x_res, x_gt, decide_eq_false hq]; simp [ev]⟩
  refine seq_for (cs1 := [DrC ns N1, .lst []]) (List.range a) (fun i => .int (i : Nat)) (fun d sl cs' => ∃ (ss : List Stt) (m : Nat) (u2 u8 u9 u10 : Option SV), ss.map (·.nm) = d.map sN ∧ (∀ s ∈ ss, StreetD js day s) ∧ m ≤ N1 + 7 * d.length ∧ cs' = [DrC ns m, .lst (ss.map eS)] ∧
    sl = [some (.c 0), some (.t (.int 3)), u2, none, some (.t (.int day)), some (.t (.tuple (js.map .str))), some (.c 1), some (.t (.int (b : Nat))), u8, u9, u10, none, none, none]) (rng1_to hit (by omega)) ⟨[], N1, none, none, none, none, by simp, by simp, by omega, rfl, rfl⟩ ?_ ?_
  · rintro d i r sl cs' eq ⟨ss, m, u2, u8, u9, u10, h1, h2, h3, rfl, rfl⟩
    have hdl := congrArg List.length eq
    simp at hdl
    have hi : i ≤ 1 := by
      have : i ∈ List.range a := mid_mem eq
      rw [List.mem_range] at this
      omega
    have hsl : ss.length = d.length := by simpa using congrArg List.length h1
    refine street_turn hj hd (by omega) hi (by omega) ?_
    intro s w8 w9 w10 hs1 hs2
    refine ⟨ss ++ [s], m + 7, _, _, _, _, by simp [h1, hs1], ?_, by simp; omega, rfl, rfl⟩
    intro x hx
    rw [List.mem_append, List.mem_singleton] at hx
    rcases hx with hx | rfl
    · exact h2 x hx
    · exact hs2
  · rintro sl cs' ⟨ss, m, u2, u8, u9, u10, h1, h2, h3, rfl, rfl⟩
    rw [List.length_range] at h3
    exact city_end hj hd ha hb (by omega) hn h1 h2
theorem city_spec (ns : List Int) (n : Nat) (hn : n ≤ 1000) : ∃ c n', CityD c ∧ n' ≤ n + 100 ∧ F__law_city [.c 0, .t (.int 3)] [DrC ns n] = .ok (.t (eC c)) [DrC ns n'] := by
  obtain ⟨v1, a1, a2, e1⟩ := next_to ns n (n + 1) 3 rfl (by omega) (by omega)
  obtain ⟨v2, b1, b2, e2⟩ := next_to ns (n + 1) (n + 2) 2 rfl (by omega) (by omega)
  obtain ⟨v3, c1, c2, e3⟩ := next_to ns (n + 2) (n + 3) 4 rfl (by omega) (by omega)
  obtain ⟨v4, d1, d2, e4⟩ := next_to ns (n + 3) (n + 4) 3 rfl (by omega) (by omega)
  obtain ⟨js, hj, hsl⟩ : ∃ js, JsD js ∧ sliceT (.tuple [.str "a", .str "b", .str "c"]) none (some (2 + v2)) = some (.tuple (js.map .str)) := by
    have : v2 = 0 ∨ v2 = 1 := by omega
    rcases this with rfl | rfl
    · exact ⟨[("a" : Str), ("b" : Str)], ⟨.inl rfl⟩, rfl⟩
    · exact ⟨[("a" : Str), ("b" : Str), ("c" : Str)], ⟨.inr rfl⟩, rfl⟩
  have main : CP ns n ((dSeq (dAsg (dTup (dCons (dAdd (dC (.int 1)) (dCall F__law_next (dCons (dVar 0) (dCons (dC (.int 3)) (dNil))))) (dCons (dSlc (dTup (dCons (dC (.str "a")) (dCons (dC (.str "b")) (dCons (dC (.str "c")) (dNil))))) (dNo) (dPart (dAdd (dC (.int 2)) (dCall F__law_next (dCons (dVar 0) (dCons (dC (.int 2)) (dNil))))))) (dNil)))) (tgTup 2 (tgCons 4 (tgCons 5 (tgNil))))) (dSeq (dPar 6 7 (dCons (dLstN (dNil)) (dCons (dAdd (dC (.int 1)) (dIf (dTest (dBin (op2 gtT) (dCall F__law_next (dCons (dVar 0) (dCons (dC (.int 4)) (dNil)))) (dC (.int 0)))) (dC (.int 0)) (dCall F__law_next (dCons (dVar 0) (dCons (dVar 1) (dNil)))))) (dNil)))) (dSeq (dFor (dRng1 (dIf (dTest (dBin (op2 gtT) (dVar 7) (dC (.int 1)))) (dC (.int 1)) (dAdd (dC (.int 1)) (dCall F__law_next (dCons (dVar 0) (dCons (dC (.int 2)) (dNil))))))) (tgName 2) (dSeq (dAsg (dCall F__law_pick (dCons (dVar 0) (dCons (dVar 5) (dNil)))) (tgName 8)) (dSeq (dAsg (dCall F__law_pick (dCons (dVar 0) (dCons (dComp (dIter (dVar 5)) (tgName 13) (dTest (dBin (op2 neO) (dVar 13) (dVar 8))) (dVar 13) [13]) (dNil)))) (tgName 9)) (dSeq (dAsg (dAdd (dC (.int 1)) (dFdiv (dCall F__law_next (dCons (dVar 0) (dCons (dC (.int 2)) (dNil)))) (dAdd (dC (.int 1)) (dCall F__law_next (dCons (dVar 0) (dCons (dC (.int 2)) (dNil))))))) (tgName 10)) (dSeq (dExpr (dApp (dVar 6) (dTup (dCons (dAdd (dC (.str "s")) (dUn strT (dVar 2))) (dCons (dVar 8) (dCons (dVar 9) (dCons (dVar 10) (dCons (dAdd (dVar 10) (dCall F__law_next (dCons (dVar 0) (dCons (dC (.int 2)) (dNil))))) (dCons (dFdiv (dCall F__law_next (dCons (dVar 0) (dCons (dC (.int 5)) (dNil)))) (dC (.int 2))) (dCons (dCall F__law_hours (dCons (dVar 0) (dCons (dVar 4) (dNil)))) (dNil))))))))))) (dSkip)))))) (dSeq (dAsg (dUn tupleT (dComp (dRng1 (dVar 7)) (tgName 2) (dYes) (dTup (dCons (dAdd (dC (.str "p")) (dUn strT (dVar 2))) (dCons (dCall F__law_pick (dCons (dVar 0) (dCons (dVar 5) (dNil)))) (dNil)))) [2])) (tgName 3)) (dSeq (dPar 11 12 (dCons (dFdiv (dCall F__law_next (dCons (dVar 0) (dCons (dC (.int 4)) (dNil)))) (dC (.int 3))) (dCons (dFdiv (dCall F__law_next (dCons (dVar 0) (dCons (dC (.int 5)) (dNil)))) (dC (.int 4))) (dNil)))) (dSeq (dRet (dTup (dCons (dVar 5) (dCons (dUn tupleT (dVar 6)) (dCons (dVar 3) (dCons (dTup (dCons (dVar 4) (dCons (dVar 11) (dCons (dVar 12) (dNil))))) (dNil))))))) (dSkip)))))))
      [some (.c 0), some (.t (.int 3)), none, none, none, none, none, none, none, none, none, none, none, none] [DrC ns n]) := by
    have s1 : (dTup (dCons (dAdd (dC (.int 1)) (dCall F__law_next (dCons (dVar 0) (dCons (dC (.int 3)) (dNil))))) (dCons (dSlc (dTup (dCons (dC (.str "a")) (dCons (dC (.str "b")) (dCons (dC (.str "c")) (dNil))))) (dNo) (dPart (dAdd (dC (.int 2)) (dCall F__law_next (dCons (dVar 0) (dCons (dC (.int 2)) (dNil))))))) (dNil)))) [some (.c 0), some (.t (.int 3)), none, none, none, none, none, none, none, none, none, none, none, none] [DrC ns n] = .ok (.t (.tuple [.int (1 + v1), .tuple (js.map .str)])) [DrC ns (n + 2)] := by simp [e1, e2, hsl]
    rw [x_seq_asg, s1, x_bindS_ok]
    have s2 : (tgTup 2 (tgCons 4 (tgCons 5 (tgNil)))) (.t (.tuple [.int (1 + v1), .tuple (js.map .str)])) [some (.c 0), some (.t (.int 3)), none, none, none, none, none, none, none, none, none, none, none, none] [DrC ns (n + 2)] = .ok [some (.c 0), some (.t (.int 3)), none, none, some (.t (.int (1 + v1))), some (.t (.tuple (js.map .str))), none, none, none, none, none, none, none, none] [DrC ns (n + 2)] := by simp
    rw [s2, x_bindS_ok, x_seq_par]
    obtain ⟨b, N, hb, hN, s3⟩ : ∃ b N : Nat, (1 ≤ b ∧ b ≤ 3) ∧ N ≤ n + 4 ∧ (dCons (dLstN (dNil)) (dCons (dAdd (dC (.int 1)) (dIf (dTest (dBin (op2 gtT) (dCall F__law_next (dCons (dVar 0) (dCons (dC (.int 4)) (dNil)))) (dC (.int 0)))) (dC (.int 0)) (dCall F__law_next (dCons (dVar 0) (dCons (dVar 1) (dNil)))))) (dNil))) [some (.c 0), some (.t (.int 3)), none, none, some (.t (.int (1 + v1))), some (.t (.tuple (js.map .str))), none, none, none, none, none, none, none, none] [DrC ns (n + 2)] = .ok [.c 1, .t (.int (b : Nat))] [DrC ns N, .lst []] := by
      by_cases hq : 0 < v3
      · exact ⟨1, n + 3, by omega, by omega, by simp [e3, hq]⟩
      · obtain ⟨k, rfl⟩ : ∃ k : Nat, v4 = (k : Int) := ⟨v4.toNat, by omega⟩
        exact ⟨1 + k, n + 4, by omega, by omega, by simp [e3, hq, e4]⟩
    rw [s3, x_bindS_ok]
    exact city_mid hj (by omega) hb hN hn
  obtain ⟨c, n', h1, h2, h3⟩ := main
  exact ⟨c, n', h1, h2, run_go h3⟩
end Mi
set_option Elab.async false
set_option linter.all false
set_option autoImplicit false
set_option maxRecDepth 100000
set_option maxHeartbeats 1000000
namespace Mi
open PySem PySem.Spec PyProof.Rows L2
structure KsD (ks : List Str) : Prop where
  is : ks = [("k0" : Str)] ∨ ks = [("k0" : Str), ("k1" : Str)] ∨ ks = [("k0" : Str), ("k1" : Str), ("k2" : Str)]
theorem KsD.nodup {ks : List Str} (h : KsD ks) : ks.Nodup := by
  rcases h.is with rfl | rfl | rfl <;> decide +kernel
theorem KsD.zz {ks : List Str} (h : KsD ks) : ¬ ("zz" : Str) ∈ ks := by
  rcases h.is with rfl | rfl | rfl <;> decide +kernel
theorem KsD.low {ks : List Str} (h : KsD ks) : ∀ j ∈ ks, Low j := by
  have ha : Low "k0" := by unfold Low; decide +kernel
  have hb : Low "k1" := by unfold Low; decide +kernel
  have hc : Low "k2" := by unfold Low; decide +kernel
  rcases h.is with rfl | rfl | rfl
  · simp [ha]
  · simp [ha, hb]
  · simp [ha, hb, hc]
theorem KsD.nm {ks : List Str} (h : KsD ks) : ∀ j ∈ ks, NmOk j := by
  rcases h.is with rfl | rfl | rfl
  · simp [nm_k0]
  · simp [nm_k0, nm_k1]
  · simp [nm_k0, nm_k1, nm_k2]
theorem KsD.len {ks : List Str} (h : KsD ks) : 1 ≤ ks.length ∧ ks.length ≤ 3 := by
  rcases h.is with rfl | rfl | rfl <;> simp
theorem KsD.hd {ks : List Str} (h : KsD ks) : ∃ r, ks = ("k0" : Str) :: r := by
  rcases h.is with rfl | rfl | rfl <;> exact ⟨_, rfl⟩
def ArcD (c : Cty) (ks : List Str) (a : Arc) : Prop := a.1 ∈ ks ∧ a.2.Sublist (c.ss.map (·.nm))
structure SkyD (c : Cty) (k : Sky) : Prop where
  ok : SkyOk c k
  kok : Kok k
  zz : ¬ ("zz" : Str) ∈ k.sts.map (·.1)
  ks : KsD (k.sts.map (·.1))
  n12 : ∀ x ∈ k.sts, 1 ≤ x.2.length ∧ x.2.length ≤ 2
theorem some_spec {c : Cty} {ns : List Int} {m : Nat} {S : List T} {L : Cs} {sl : Sl} (hcs : c.ss.length ≤ 2) (hm : m ≤ 5000) (hs : sl.length = 9) (h0 : sl[0]? = some (some (.c 0))) (h1 : sl[1]? = some (some (.t (eC c)))) :
    ∃ (fs : List Str) (m' : Nat), fs.Sublist (c.ss.map (·.nm)) ∧ m' ≤ m + 2 ∧ dComp (dIter (dIdx (dVar 1) (dC (.int 1)))) (tgName 8) (dTest (dBin (op2 eqO) (dCall F__law_next (dCons (dVar 0) (dCons (dC (.int 3)) (dNil)))) (dC (.int 0)))) (dIdx (dVar 8) (dC (.int 0))) [8] sl (DrC ns m :: L) = .ok (.t (.list (fs.map .str))) (DrC ns m' :: L) := by
  obtain ⟨acc, E, e1, ⟨fs, m', e2, e3, e4, e5⟩, e6⟩ := dComp_st (cs := DrC ns m :: L) (cs1 := DrC ns m :: L) (it := dIter (dIdx (dVar 1) (dC (.int 1)))) (t := tgName 8) (c := dTest (dBin (op2 eqO) (dCall F__law_next (dCons (dVar 0) (dCons (dC (.int 3)) (dNil)))) (dC (.int 0)))) (e := dIdx (dVar 8) (dC (.int 0))) (vs := [8]) (sl := sl) c.ss eS
    (fun d acc E => ∃ (fs : List Str) (m' : Nat), fs.Sublist (d.map (·.nm)) ∧ m' ≤ m + d.length ∧ acc = fs.map .str ∧ E = DrC ns m' :: L) (by simp [h1]) ⟨[], m, by simp, by simp, rfl, rfl⟩ (by
      rintro d s r acc E eq _ ⟨fs, m', q1, q2, rfl, rfl⟩
      have hdl := congrArg List.length eq
      simp at hdl
      have hfl := q1.length_le
      simp at hfl
      obtain ⟨v, v1, v2, ev⟩ := next_to ns m' (m' + 1) 3 rfl (by omega) (by omega)
      have h0' : ((sl.set 8 none).set 8 (some (SV.t (eS s))))[0]? = some (some (.c 0)) := by simpa using h0
      refine ⟨by rw [List.length_map]; have := sz_of (n := 1000) (by omega); omega, ?_⟩
      by_cases hv : v = 0
      · refine ⟨some (.t (.str s.nm)), DrC ns (m' + 1) :: L, ?_, rfl, fs ++ [s.nm], m' + 1, ?_, by simp; omega, by simp, rfl⟩
        · have h8 : ((sl.set 8 none).set 8 (some (SV.t (eS s))))[8]? = some (some (.t (eS s))) := by simp [hs]
          simp only [x_cturn, x_tgName, x_wipe1, x_wipe0, x_test, x_bin, x_call, x_cons, x_var, h0', x_bind_ok, x_c, x_nil, List.cons_append, ev, x_op2, x_res, x_eqI, hv, decide_true, x_idx, h8, i_S0]
        · rw [List.map_append]
          exact List.Sublist.append q1 (List.Sublist.refl _)
      · refine ⟨none, DrC ns (m' + 1) :: L, ?_, rfl, fs, m' + 1, ?_, by simp; omega, rfl, rfl⟩
        · simp only [x_cturn, x_tgName, x_wipe1, x_wipe0, x_test, x_bin, x_call, x_cons, x_var, h0', x_bind_ok, x_c, x_nil, List.cons_append, ev, x_op2, x_res, x_eqI, decide_eq_false hv]
        · rw [List.map_append]
          exact q1.trans (List.sublist_append_left _ _))
  subst e4
  subst e5
  exact ⟨fs, m', e2, by omega, e6⟩
theorem sky_ok {c : Cty} {ks : List Str} {sts : List (Str × List Arc)} (hc : CityD c) (hk : KsD ks) (h1 : sts.map (·.1) = ks) (h2 : ∀ x ∈ sts, (1 ≤ x.2.length ∧ x.2.length ≤ 2) ∧ ∀ a ∈ x.2, ArcD c ks a) : SkyD c ⟨"k0", sts⟩ := by
  have hkl := hk.len
  have hsl : sts.length = ks.length := by simpa using congrArg List.length h1
  have hx : ∀ x ∈ sts, x.1 ∈ ks := fun x hx => by rw [← h1]; exact List.mem_map.mpr ⟨x, hx, rfl⟩
  have hns : (c.ss.map (·.nm)).Nodup := (List.nodup_append.mp hc.ok.un).1
  have hlow : ∀ f ∈ c.ss.map (·.nm), Low f := by
    intro f hf
    obtain ⟨s, hs, rfl⟩ := List.mem_map.mp hf
    exact (hc.cok.ss s hs).1
  refine ⟨⟨fun x h => hk.low _ (hx x h), fun s hs => (hc.cok.ss s hs).1, by simp only; omega, fun x h => hk.nm _ (hx x h), by simp only [h1]; exact hk.nodup, ?_, fun x h => ?_, fun x h a ha => ?_, hc.cok.ns⟩, ⟨fun x h => ⟨hk.low _ (hx x h), ?_, fun a ha => ⟨?_, fun f hf => ?_⟩⟩, by simp only; omega⟩, ?_, by simp only [h1]; exact hk, fun x h => (h2 x h).1⟩
  · simp only [h1]
    obtain ⟨r, hr⟩ := hk.hd
    rw [hr]
    simp
  · have := (h2 x h).1
    omega
  · obtain ⟨q1, q2⟩ := (h2 x h).2 a ha
    simp only [h1]
    refine ⟨q1, ?_, fun f hf => q2.subset hf, hns.sublist q2⟩
    simpa using q2.length_le
  · have := (h2 x h).1
    omega
  · exact hk.low _ ((h2 x h).2 a ha).1
  · exact hlow f (((h2 x h).2 a ha).2.subset hf)
  · simp only [h1]
    exact hk.zz
def SP (ns : List Int) (n : Nat) (c : Cty) (o : RS) : Prop := ∃ k n', SkyD c k ∧ n' ≤ n + 100 ∧ Fin_ 1 (.ok (.t (eK k)) [DrC ns n']) o
theorem sky_run {N : Nat} {body : DS} {rs : List SV} {ns : List Int} {n : Nat} {c : Cty} (h : SP ns n c (body (rs.map some ++ List.replicate (N - rs.length) none) [DrC ns n])) : ∃ k n', SkyD c k ∧ n' ≤ n + 100 ∧ runF N body rs [DrC ns n] = .ok (.t (eK k)) [DrC ns n'] := by
  obtain ⟨k, n', h1, h2, h3⟩ := h
  exact ⟨k, n', h1, h2, run_go h3⟩
theorem arc_turn {c : Cty} {ns : List Int} {m i : Nat} {ks : List Str} {S : List T} {J : Cs} {as : List Arc} {u2 u6 u7 u8 : Option SV} {I : Sl → Cs → Prop} {P : RS → Prop} (hc : CityD c) (hk : KsD ks) (hm : m ≤ 4000) (has : as.length ≤ 100)
    (hI : ∀ a m' u7 u6, ArcD c ks a → m' ≤ m + 3 → I [some (.c 0), some (.t (eC c)), u2, some (.t (.tuple (ks.map .str))), some (.c 1), some (.c (J.length + 2)), u6, u7, u8] (DrC ns m' :: .lst S :: (J ++ [.lst ((as ++ [a]).map eA)]))) :
    Go I P (Turn (tgName 6) (dSeq (dAsg (dUn tupleT (dComp (dIter (dIdx (dVar 1) (dC (.int 1)))) (tgName 8) (dTest (dBin (op2 eqO) (dCall F__law_next (dCons (dVar 0) (dCons (dC (.int 3)) (dNil)))) (dC (.int 0)))) (dIdx (dVar 8) (dC (.int 0))) [8])) (tgName 7)) (dSeq (dExpr (dApp (dVar 5) (dTup (dCons (dCall F__law_pick (dCons (dVar 0) (dCons (dVar 3) (dNil)))) (dCons (dVar 7) (dNil)))))) (dSkip)))
      (.int (i : Nat)) [some (.c 0), some (.t (eC c)), u2, some (.t (.tuple (ks.map .str))), some (.c 1), some (.c (J.length + 2)), u6, u7, u8] (DrC ns m :: .lst S :: (J ++ [.lst (as.map eA)]))) := by
  have hkl := hk.len
  obtain ⟨fs, m1, f1, f2, f3⟩ := some_spec (c := c) (ns := ns) (m := m) (S := S) (L := .lst S :: (J ++ [.lst (as.map eA)])) (sl := [some (.c 0), some (.t (eC c)), u2, some (.t (.tuple (ks.map .str))), some (.c 1), some (.c (J.length + 2)), some (.t (.int (i : Nat))), u7, u8]) hc.s1.2 (by omega) rfl rfl rfl
  obtain ⟨b, hb, eb⟩ := pickT_to ns m1 (m1 + 1) ks PyData.str rfl (by omega) (by intro e; rw [e] at hkl; simp at hkl)
  have q := hI (b, fs) (m1 + 1) (some (.t (.tuple (fs.map .str)))) (some (.t (.int (i : Nat)))) ⟨hb, f1⟩ (by omega)
  have hsz : as.length < sizeLine := by have := sz_of (n := 1000) (by omega); omega
  rw [x_turn, x_tgName, x_bindS_ok]
  rw [show [some (.c 0), some (.t (eC c)), u2, some (.t (.tuple (ks.map .str))), some (.c 1), some (.c (J.length + 2)), u6, u7, u8].set 6 (some (SV.t (.int (i : Nat)))) = [some (.c 0), some (.t (eC c)), u2, some (.t (.tuple (ks.map .str))), some (.c 1), some (.c (J.length + 2)), some (.t (.int (i : Nat))), u7, u8] from rfl]
  rw [x_seq_asg, x_un, f3]
  simp [eb, hsz]
  simp [eA] at q
  exact q
theorem state_turn {c : Cty} {ns : List Int} {m : Nat} {ks : List Str} {nm : Str} {sts : List (Str × List Arc)} {J : Cs} {u2 u5 u6 u7 u8 : Option SV} {I : Sl → Cs → Prop} {P : RS → Prop} (hc : CityD c) (hk : KsD ks) (hm : m ≤ 2000) (hst : sts.length ≤ 100)
    (hI : ∀ as m' J u2 u5 u6 u7, (1 ≤ as.length ∧ as.length ≤ 2) → (∀ a ∈ as, ArcD c ks a) → m' ≤ m + 10 → I [some (.c 0), some (.t (eC c)), u2, some (.t (.tuple (ks.map .str))), some (.c 1), u5, u6, u7, u8] (DrC ns m' :: .lst ((sts ++ [(nm, as)]).map eSt) :: J)) :
    Go I P (Turn (tgName 2) (dSeq (dAsg (dLstN (dNil)) (tgName 5)) (dSeq (dFor (dRng1 (dAdd (dC (.int 1)) (dCall F__law_next (dCons (dVar 0) (dCons (dC (.int 2)) (dNil)))))) (tgName 6) (dSeq (dAsg (dUn tupleT (dComp (dIter (dIdx (dVar 1) (dC (.int 1)))) (tgName 8) (dTest (dBin (op2 eqO) (dCall F__law_next (dCons (dVar 0) (dCons (dC (.int 3)) (dNil)))) (dC (.int 0)))) (dIdx (dVar 8) (dC (.int 0))) [8])) (tgName 7)) (dSeq (dExpr (dApp (dVar 5) (dTup (dCons (dCall F__law_pick (dCons (dVar 0) (dCons (dVar 3) (dNil)))) (dCons (dVar 7) (dNil)))))) (dSkip)))) (dSeq (dExpr (dApp (dVar 4) (dTup (dCons (dVar 2) (dCons (dUn tupleT (dVar 5)) (dNil)))))) (dSkip))))
      (.str nm) [some (.c 0), some (.t (eC c)), u2, some (.t (.tuple (ks.map .str))), some (.c 1), u5, u6, u7, u8] (DrC ns m :: .lst (sts.map eSt) :: J)) := by
  obtain ⟨v, v1, v2, ev⟩ := next_to ns m (m + 1) 2 rfl (by omega) (by omega)
  obtain ⟨k, rfl⟩ : ∃ k : Nat, v = (k : Int) := ⟨v.toNat, by omega⟩
  have hsz : sts.length < sizeLine := by have := sz_of (n := 1000) (by omega); omega
  rw [x_turn, x_tgName, x_bindS_ok, x_seq_asg]
  rw [show dLstN (dNil) ([some (.c 0), some (.t (eC c)), u2, some (.t (.tuple (ks.map .str))), some (.c 1), u5, u6, u7, u8].set 2 (some (SV.t (.str nm)))) (DrC ns m :: .lst (sts.map eSt) :: J) = .ok (.c (J.length + 2)) (DrC ns m :: .lst (sts.map eSt) :: (J ++ [.lst []])) by simp]
  rw [x_bindS_ok, x_tgName, x_bindS_ok]
  rw [show ([some (.c 0), some (.t (eC c)), u2, some (.t (.tuple (ks.map .str))), some (.c 1), u5, u6, u7, u8].set 2 (some (SV.t (.str nm)))).set 5 (some (SV.c (J.length + 2))) = [some (.c 0), some (.t (eC c)), some (.t (.str nm)), some (.t (.tuple (ks.map .str))), some (.c 1), some (.c (J.length + 2)), u6, u7, u8] from rfl]
  refine seq_for (cs1 := DrC ns (m + 1) :: .lst (sts.map eSt) :: (J ++ [.lst []])) (List.range (1 + k)) (fun i => .int (i : Nat)) (fun d sl cs' => ∃ (as : List Arc) (m' : Nat) (u6 u7 : Option SV), as.length = d.length ∧ (∀ a ∈ as, ArcD c ks a) ∧ m' ≤ m + 1 + 3 * d.length ∧ cs' = DrC ns m' :: .lst (sts.map eSt) :: (J ++ [.lst (as.map eA)]) ∧
    sl = [some (.c 0), some (.t (eC c)), some (.t (.str nm)), some (.t (.tuple (ks.map .str))), some (.c 1), some (.c (J.length + 2)), u6, u7, u8]) (rng1_to (by simp [ev]) (by omega)) ⟨[], m + 1, u6, u7, rfl, by simp, by omega, rfl, rfl⟩ ?_ ?_
  · rintro d i r sl cs' eq ⟨as, m', w6, w7, h1, h2, h3, rfl, rfl⟩
    have hdl := congrArg List.length eq
    simp at hdl
    refine arc_turn hc hk (by omega) (by omega) ?_
    intro a m2 w7' w6' ha hm2
    refine ⟨as ++ [a], m2, _, _, by simp [h1], ?_, by simp; omega, rfl, rfl⟩
    intro x hx
    rw [List.mem_append, List.mem_singleton] at hx
    rcases hx with hx | rfl
    · exact h2 x hx
    · exact ha
  · rintro sl cs' ⟨as, m', w6, w7, h1, h2, h3, rfl, rfl⟩
    rw [List.length_range] at h1 h3
    have q := hI as m' (J ++ [.lst (as.map eA)]) (some (.t (.str nm))) (some (.c (J.length + 2))) w6 w7 (by omega) h2 (by omega)
    simp [hsz]
    simp [eSt] at q
    exact q
theorem sky_spec (ns : List Int) (n : Nat) (c : Cty) (hc : CityD c) (hn : n ≤ 1000) : ∃ k n', SkyD c k ∧ n' ≤ n + 100 ∧ F__law_sky [.c 0, .t (eC c)] [DrC ns n] = .ok (.t (eK k)) [DrC ns n'] := by
  obtain ⟨v1, a1, a2, e1⟩ := next_to ns n (n + 1) 2 rfl (by omega) (by omega)
  obtain ⟨v2, b1, b2, e2⟩ := next_to ns (n + 1) (n + 2) (2 + v1) rfl (by omega) (by omega)
  obtain ⟨ks, hk, hsl⟩ : ∃ ks, KsD ks ∧ sliceT (.tuple [.str "k0", .str "k1", .str "k2"]) none (some (1 + v2)) = some (.tuple (ks.map .str)) := by
    have : v2 = 0 ∨ v2 = 1 ∨ v2 = 2 := by omega
    rcases this with rfl | rfl | rfl
    · exact ⟨_, ⟨.inl rfl⟩, rfl⟩
    · exact ⟨_, ⟨.inr (.inl rfl)⟩, rfl⟩
    · exact ⟨_, ⟨.inr (.inr rfl)⟩, rfl⟩
  have hkl := hk.len
  unfold F__law_sky
  refine sky_run ?_
  rw [x_seq_par]
  have s1 : (dCons (dSlc (dTup (dCons (dC (.str "k0")) (dCons (dC (.str "k1")) (dCons (dC (.str "k2")) (dNil))))) (dNo) (dPart (dAdd (dC (.int 1)) (dCall F__law_next (dCons (dVar 0) (dCons (dAdd (dC (.int 2)) (dCall F__law_next (dCons (dVar 0) (dCons (dC (.int 2)) (dNil))))) (dNil))))))) (dCons (dLstN (dNil)) (dNil))) [some (.c 0), some (.t (eC c)), none, none, none, none, none, none, none] [DrC ns n] = .ok [.t (.tuple (ks.map .str)), .c 1] [DrC ns (n + 2), .lst []] := by simp [e1, e2, hsl]
  refine cast (congrArg (SP ns n c) (congrArg (fun r => R.bindS r _ _) s1.symm)) ?_
  rw [x_bindS_ok]
  refine seq_for (cs1 := [DrC ns (n + 2), .lst []]) ks PyData.str (fun d sl cs' => ∃ (sts : List (Str × List Arc)) (m : Nat) (J : Cs) (u2 u5 u6 u7 : Option SV), sts.map (·.1) = d ∧ (∀ x ∈ sts, (1 ≤ x.2.length ∧ x.2.length ≤ 2) ∧ ∀ a ∈ x.2, ArcD c ks a) ∧ m ≤ n + 2 + 10 * d.length ∧ cs' = DrC ns m :: .lst (sts.map eSt) :: J ∧
    sl = [some (.c 0), some (.t (eC c)), u2, some (.t (.tuple (ks.map .str))), some (.c 1), u5, u6, u7, none]) (by simp) ⟨[], n + 2, [], none, none, none, none, by simp, by simp, by omega, rfl, rfl⟩ ?_ ?_
  · rintro d nm r sl cs' eq ⟨sts, m, J, u2, u5, u6, u7, h1, h2, h3, rfl, rfl⟩
    have hdl := congrArg List.length eq
    simp at hdl
    have hsl2 : sts.length = d.length := by simpa using congrArg List.length h1
    refine state_turn hc hk (by omega) (by omega) ?_
    intro as m' J' w2 w5 w6 w7 q1 q2 q3
    refine ⟨sts ++ [(nm, as)], m', J', w2, w5, w6, w7, by simp [h1], ?_, by simp; omega, rfl, rfl⟩
    intro x hx
    rw [List.mem_append, List.mem_singleton] at hx
    rcases hx with hx | rfl
    · exact h2 x hx
    · exact ⟨q1, q2⟩
  · rintro sl cs' ⟨sts, m, J, u2, u5, u6, u7, h1, h2, h3, rfl, rfl⟩
    obtain ⟨r, hr⟩ := hk.hd
    have hD := sky_ok hc hk h1 h2
    refine ⟨⟨"k0", sts⟩, m, hD, by omega, ?_⟩
    simp [hr, eK]
end Mi
set_option Elab.async false
set_option linter.all false
set_option autoImplicit false
set_option maxRecDepth 100000
set_option maxHeartbeats 1000000
namespace Mi
open PySem PySem.Spec PyProof.Rows L2
/-! ### what is no city: the check raises -/
def CkOk (t : T) : Prop := ∀ cs, F_check_city [.t t] cs = .ok (.t .none) cs
def CkBad (t : T) : Prop := ∀ cs, ∃ fs, F_check_city [.t t] cs = .ex ⟨0, fs⟩ cs
theorem is_city_ok {t : T} (h : CkOk t) (cs : Cs) : F_is_city [.t t] cs = .ok (.t (.bool true)) cs := by
  apply run_go
  simp [x_seq_tryO, dTryO, h cs]
theorem is_city_bad {t : T} (h : CkBad t) (cs : Cs) : F_is_city [.t t] cs = .ok (.t (.bool false)) cs := by
  obtain ⟨fs, h⟩ := h cs
  apply run_go
  simp [x_seq_tryO, dTryO, h, clearO]
theorem nm_bad (s : Str) (a : Nat) (hl : s.length ≤ 1000) (h2 : s.cps.toList[0]? = some a) (h3 : (1 ≤ s.length ∧ s.length ≤ 8) → hasT (.str ⟨#[a]⟩) (.str "abcdefghijklmnopqrstuvwxyz") = some false) : ∀ cs, F_is_name [.t (.str s)] cs = .ok (.t (.bool false)) cs := by
  intro cs
  have hsz : s.length ≤ sizeLine := sz_of (by omega)
  have hlen : lenT (.str s) = some (.int (s.length : Nat)) := by simp only [lenT]; rw [if_pos hsz]
  have hidx : idxT (.str s) (.int 0) = some (.str ⟨#[a]⟩) := by
    have : s.cps.toList.length ≠ 0 := by intro e; rw [List.length_eq_zero_iff.mp e] at h2; cases h2
    simp only [idxT, hsz, if_true, atI]
    rw [show ixN s.cps.toList.length 0 = some 0 by unfold ixN; rw [if_pos (by omega), if_pos (by omega)]; rfl]
    simp only [Option.bind_some, h2, Option.map_some]
  apply run_go
  by_cases q : (1 : Int) ≤ (s.length : Nat) ∧ ((s.length : Nat) : Int) ≤ 8
  · have hin : inO (.str ⟨#[a]⟩) (.str "abcdefghijklmnopqrstuvwxyz") = some (.bool false) := by
      have := h3 (by omega)
      simp [inO, this]
    have q4 : ¬ (8 : Int) < (s.length : Nat) := by omega
    have q3 : ¬ s.length = 0 := by omega
    simp [tyName, hlen, q.1, q.2, hidx, hin]
    try simp [q3, q4]
  · by_cases q1 : (1 : Int) ≤ (s.length : Nat)
    · have q2 : ¬ ((s.length : Nat) : Int) ≤ 8 := fun z => q ⟨q1, z⟩
      have q4 : (8 : Int) < (s.length : Nat) := by omega
      simp [tyName, hlen, q1, q2]
      try simp [q4]
    · simp [tyName, hlen, q1]
end Mi
set_option Elab.async false
set_option linter.all false
set_option autoImplicit false
set_option maxRecDepth 100000
set_option maxHeartbeats 1000000
namespace Mi
open PySem PySem.Spec PyProof.Rows L2
/-! ### streets that are none -/
def StBad (js : List Str) (day : Int) (x : T) : Prop := ∀ cs, ∃ fs, F_check_street [.t x, .t (.tuple (js.map .str)), .t (.int day)] cs = .ex ⟨0, fs⟩ cs
/-- a row of seven by the truth of its tests -/
theorem street_raw {js : List Str} {day : Int} {nm one oth wk lim hrs : T} {go : Int} {b1 b2 b3 b4 b5 b6 b7 : Bool} (h1 : ∀ cs, F_is_name [.t nm] cs = .ok (.t (.bool b1)) cs) (h2 : ∀ cs, F_is_known [.t one, .t (.tuple (js.map .str))] cs = .ok (.t (.bool b2)) cs) (h3 : ∀ cs, F_is_known [.t oth, .t (.tuple (js.map .str))] cs = .ok (.t (.bool b3)) cs) (h4 : eqO one oth = some (.bool b4))
    (h5 : ∀ cs, F_is_within [.t (.int go), .t (.int 1), .t (.int 9)] cs = .ok (.t (.bool b5)) cs) (h6 : ∀ cs, F_is_within [.t wk, .t (.int go), .t (.int 20)] cs = .ok (.t (.bool b6)) cs) (h7 : ∀ cs, F_is_within [.t lim, .t (.int 0), .t (.int 9)] cs = .ok (.t (.bool b7)) cs)
    (h : (b1 && b2 && b3 && !b4 && b5 && b6 && b7) = false ∨ ∀ cs, ∃ fs, F_check_hours [.t nm, .t hrs, .t (.int day)] cs = .ex ⟨0, fs⟩ cs) : StBad js day (.tuple [nm, one, oth, .int go, wk, lim, hrs]) := by
  intro cs
  have r1 : ∀ cs, F_is_row [.t (.tuple [nm, one, oth, .int go, wk, lim, hrs]), .t (.int 7), .t (.int 7)] cs = .ok (.t (.bool true)) cs := fun cs => by simp
  have i0 : idxT (.tuple [nm, one, oth, .int go, wk, lim, hrs]) (.int 0) = some nm := rfl
  cases b1 with
  | false => exact ⟨_, by apply run_go; simp [-e_is_row, r1, i0, h1]; rfl⟩
  | true => cases b2 with
    | false => exact ⟨_, by apply run_go; simp [-e_is_row, r1, i0, h1, h2]; rfl⟩
    | true => cases b3 with
      | false => exact ⟨_, by apply run_go; simp [-e_is_row, r1, i0, h1, h2, h3]; rfl⟩
      | true => cases b4 with
        | true => exact ⟨_, by apply run_go; simp [-e_is_row, r1, i0, h1, h2, h3, h4]; rfl⟩
        | false => cases b5 with
          | false => exact ⟨_, by apply run_go; simp [-e_is_row, -e_is_within, r1, i0, h1, h2, h3, h4, h5]; rfl⟩
          | true => cases b6 with
            | false => exact ⟨_, by apply run_go; simp [-e_is_row, -e_is_within, r1, i0, h1, h2, h3, h4, h5, h6]; rfl⟩
            | true => cases b7 with
              | false => exact ⟨_, by apply run_go; simp [-e_is_row, -e_is_within, r1, i0, h1, h2, h3, h4, h5, h6, h7]; rfl⟩
              | true =>
                rcases h with h | h
                · cases h
                · obtain ⟨fs, hf⟩ := h cs
                  exact ⟨fs, by apply run_go; simp [-e_is_row, -e_is_within, r1, i0, h1, h2, h3, h4, h5, h6, h7, hf]⟩
theorem street_row {js : List Str} {day : Int} {x : T} (h : ∀ cs, F_is_row [.t x, .t (.int 7), .t (.int 7)] cs = .ok (.t (.bool false)) cs) : StBad js day x := by
  intro cs
  exact ⟨_, by apply run_go; simp [-e_is_row, h]; rfl⟩
theorem city_street {c : Cty} {x : T} {ss : List Stt} (h : CityOk c) (hl : ss.length ≤ 19) (hb : StBad c.js c.day x) : CkBad (.tuple [.tuple (c.js.map .str), .tuple (x :: ss.map eS), .tuple (c.ps.map eP), .tuple [.int c.day, .int c.late, .int c.falls]]) := by
  intro cs
  obtain ⟨fs, hf⟩ := hb cs
  refine ⟨fs, ?_⟩
  apply run_go
  have r1 : ∀ cs, F_is_row [.t (.tuple [.tuple (c.js.map .str), .tuple (x :: ss.map eS), .tuple (c.ps.map eP), .tuple [.int c.day, .int c.late, .int c.falls]]), .t (.int 4), .t (.int 4)] cs = .ok (.t (.bool true)) cs := fun cs => by simp
  have r2 : ∀ cs, F_is_row [.t (.tuple (x :: ss.map eS)), .t (.int 0), .t (.int 20)] cs = .ok (.t (.bool true)) cs := fun cs => by simp; omega
  simp [-e_is_row, r1, r2, e_check_junctions h, e_check_ploughs h, e_check_rules h]
  refine seq_for (cs1 := cs) (x :: ss.map eS) id (fun d sl cs' => d = [] ∧ cs' = cs ∧ ∃ u, sl = [some (.t (.tuple [.tuple (c.js.map .str), .tuple (x :: ss.map eS), .tuple (c.ps.map eP), .tuple [.int c.day, .int c.late, .int c.falls]])), u, some (.t (.tuple (c.js.map .str))), some (.t (.tuple (x :: ss.map eS))), some (.t (.tuple (c.ps.map eP))), some (.t (.tuple [.int c.day, .int c.late, .int c.falls])), none]) (by simp) ⟨rfl, rfl, _, rfl⟩ ?_ ?_
  · rintro d y r sl cs' e ⟨rfl, rfl, u, rfl⟩
    simp at e
    obtain ⟨rfl, _⟩ := e
    simp [hf]
  · rintro sl cs' ⟨e, _⟩
    cases e
end Mi
set_option Elab.async false
set_option linter.all false
set_option autoImplicit false
set_option maxRecDepth 100000
set_option maxHeartbeats 1000000
namespace Mi
open PySem PySem.Spec PyProof.Rows L2
/-! ### hours that are none -/
def hrsBad (day : Int) : Int → List (Int × Int) → Prop
  | _, [] => False
  | last, (b, e) :: r => ¬ (last + 1 ≤ b ∧ b ≤ day - 1) ∨ ¬ (b + 1 ≤ e ∧ e ≤ day) ∨ hrsBad day e r
def HrBad (day : Int) (t : T) : Prop := ∀ nm cs, ∃ fs, F_check_hours [.t nm, .t t, .t (.int day)] cs = .ex ⟨0, fs⟩ cs
/-- what raises ends so -/
def XP (n : Nat) (cs : Cs) (o : RS) : Prop := ∃ fs, Fin_ n (.ex ⟨0, fs⟩ cs) o
@[simp] theorem xp_ex (n : Nat) (cs : Cs) (fs : _) (sl : Sl) (c : Cs) : XP n cs (.ex ⟨0, fs⟩ sl c) = (c.take n = cs) := by
  apply propext
  constructor
  · rintro ⟨gs, h⟩
    rw [fin_ex] at h
    cases h
    rfl
  · intro h
    exact ⟨fs, by rw [fin_ex, h]⟩
theorem xp_run {N : Nat} {body : DS} {rs : List SV} {cs : Cs} (h : XP cs.length cs (body (rs.map some ++ List.replicate (N - rs.length) none) cs)) : ∃ fs, runF N body rs cs = .ex ⟨0, fs⟩ cs := by
  obtain ⟨fs, h⟩ := h
  exact ⟨fs, run_go h⟩
theorem hours_bad {hrs : List (Int × Int)} {day : Int} (hl : hrs.length ≤ 6) (h : hrsBad day (-1) hrs) : HrBad day (.tuple (hrs.map eH)) := by
  intro nm cs
  apply xp_run
  have r1 : ∀ cs, F_is_row [.t (.tuple (hrs.map eH)), .t (.int 0), .t (.int 6)] cs = .ok (.t (.bool true)) cs := fun cs => by simp; omega
  simp [-e_is_row, -e_is_within, r1]
  refine seq_for hrs eH (fun d sl cs' => cs' = cs ∧ ∃ last u4 u5 u6, (∀ r, hrs = d ++ r → hrsBad day last r) ∧ sl = [some (.t nm), some (.t (.tuple (hrs.map eH))), some (.t (.int day)), some (.t (.int last)), u4, u5, u6]) (by simp) ⟨rfl, -1, _, _, _, by simp; exact h, rfl⟩ ?_ ?_
  · rintro d ⟨b, e⟩ r sl cs' eq ⟨rfl, last, u4, u5, u6, hI, rfl⟩
    have hh := hI _ eq
    simp only [hrsBad] at hh
    have r2 : ∀ cs, F_is_row [.t (.tuple [.int b, .int e]), .t (.int 2), .t (.int 2)] cs = .ok (.t (.bool true)) cs := fun cs => by simp
    by_cases h1 : last + 1 ≤ b ∧ b ≤ day - 1
    · have r3 : ∀ cs, F_is_within [.t (.int b), .t (.int (last + 1)), .t (.int (day - 1))] cs = .ok (.t (.bool true)) cs := fun cs => by simp; omega
      by_cases h2 : b + 1 ≤ e ∧ e ≤ day
      · have r4 : ∀ cs, F_is_within [.t (.int e), .t (.int (b + 1)), .t (.int day)] cs = .ok (.t (.bool true)) cs := fun cs => by simp; omega
        have h3 : hrsBad day e r := by
          rcases hh with q | q | q
          · exact absurd h1 q
          · exact absurd h2 q
          · exact q
        simp [-e_is_row, -e_is_within, eH, r2, r3, r4]
        intro r' hr'
        have : r = r' := by
          have := eq.symm.trans hr'
          simpa using this
        rw [← this]
        exact h3
      · have r4 : ∀ cs, F_is_within [.t (.int e), .t (.int (b + 1)), .t (.int day)] cs = .ok (.t (.bool false)) cs := fun cs => by simp; omega
        simp [-e_is_row, -e_is_within, eH, r2, r3, r4]
    · have r3 : ∀ cs, F_is_within [.t (.int b), .t (.int (last + 1)), .t (.int (day - 1))] cs = .ok (.t (.bool false)) cs := fun cs => by simp; omega
      simp [-e_is_row, -e_is_within, eH, r2, r3]
  · rintro sl cs' ⟨rfl, last, u4, u5, u6, hI, rfl⟩
    have := hI [] (by simp)
    simp [hrsBad] at this
theorem hours_list {ts : List T} {day : Int} : HrBad day (.list ts) := by
  intro nm cs
  apply xp_run
  have r1 : ∀ cs, F_is_row [.t (.list ts), .t (.int 0), .t (.int 6)] cs = .ok (.t (.bool false)) cs := fun cs => by simp
  simp [-e_is_row, -e_is_within, r1]
end Mi
set_option Elab.async false
set_option linter.all false
set_option autoImplicit false
set_option maxRecDepth 100000
set_option maxHeartbeats 1000000
namespace Mi
open PySem PySem.Spec PyProof.Rows L2
/-! ### streets that are bent -/
variable {a b c d e f g x : T}
def T7 (a b c d e f g : T) : T := .tuple [a, b, c, d, e, f, g]
theorem sl7 : sliceT (T7 a b c d e f g) none (some 0) = some (.tuple []) ∧ sliceT (T7 a b c d e f g) none (some 1) = some (.tuple [a]) ∧ sliceT (T7 a b c d e f g) none (some 2) = some (.tuple [a, b]) ∧ sliceT (T7 a b c d e f g) none (some 3) = some (.tuple [a, b, c]) ∧ sliceT (T7 a b c d e f g) none (some 5) = some (.tuple [a, b, c, d, e]) ∧ sliceT (T7 a b c d e f g) none (some 6) = some (.tuple [a, b, c, d, e, f])
    ∧ sliceT (T7 a b c d e f g) (some 1) none = some (.tuple [b, c, d, e, f, g]) ∧ sliceT (T7 a b c d e f g) (some 2) none = some (.tuple [c, d, e, f, g]) ∧ sliceT (T7 a b c d e f g) (some 3) none = some (.tuple [d, e, f, g]) ∧ sliceT (T7 a b c d e f g) (some 5) none = some (.tuple [f, g]) ∧ sliceT (T7 a b c d e f g) (some 6) none = some (.tuple [g]) ∧ sliceT (T7 a b c d e f g) (some 7) none = some (.tuple []) := ⟨rfl, rfl, rfl, rfl, rfl, rfl, rfl, rfl, rfl, rfl, rfl, rfl⟩
theorem small_ok {n : Nat} (h : n ≤ 1000) : n ≤ sizeLine := sz_of (by omega)
theorem put7 (cs : Cs) : F__law_put [.t (T7 a b c d e f g), .t (.int 0), .t x] cs = .ok (.t (T7 x b c d e f g)) cs ∧ F__law_put [.t (T7 a b c d e f g), .t (.int 1), .t x] cs = .ok (.t (T7 a x c d e f g)) cs ∧ F__law_put [.t (T7 a b c d e f g), .t (.int 2), .t x] cs = .ok (.t (T7 a b x d e f g)) cs
    ∧ F__law_put [.t (T7 a b c d e f g), .t (.int 5), .t x] cs = .ok (.t (T7 a b c d e x g)) cs ∧ F__law_put [.t (T7 a b c d e f g), .t (.int 6), .t x] cs = .ok (.t (T7 a b c d e f x)) cs := by
  obtain ⟨l0, l1, l2, l3, l5, l6, r1, r2, r3, r5, r6, r7⟩ := @sl7 a b c d e f g
  have z1 := small_ok (n := 1) (by omega)
  have z2 := small_ok (n := 2) (by omega)
  have z3 := small_ok (n := 3) (by omega)
  have z6 := small_ok (n := 6) (by omega)
  have z7 := small_ok (n := 7) (by omega)
  refine ⟨?_, ?_, ?_, ?_, ?_⟩ <;> (apply run_go; simp [l0, l1, l2, l5, l6, r1, r2, r3, r6, r7, z1, z2, z3, z6, z7]; first | done | rfl)
def R3 (a b c : T) : T := .tuple [a, b, c]
theorem put3 (cs : Cs) : F__law_put [.t (R3 a b c), .t (.int 0), .t x] cs = .ok (.t (R3 x b c)) cs ∧ F__law_put [.t (R3 a b c), .t (.int 1), .t x] cs = .ok (.t (R3 a x c)) cs ∧ F__law_put [.t (R3 a b c), .t (.int 2), .t x] cs = .ok (.t (R3 a b x)) cs := by
  have l0 : sliceT (R3 a b c) none (some 0) = some (.tuple []) := rfl
  have l1 : sliceT (R3 a b c) none (some 1) = some (.tuple [a]) := rfl
  have l2 : sliceT (R3 a b c) none (some 2) = some (.tuple [a, b]) := rfl
  have r1 : sliceT (R3 a b c) (some 1) none = some (.tuple [b, c]) := rfl
  have r2 : sliceT (R3 a b c) (some 2) none = some (.tuple [c]) := rfl
  have r3 : sliceT (R3 a b c) (some 3) none = some (.tuple []) := rfl
  have z1 := small_ok (n := 1) (by omega)
  have z2 := small_ok (n := 2) (by omega)
  have z3 := small_ok (n := 3) (by omega)
  refine ⟨?_, ?_, ?_⟩ <;> (apply run_go; simp [l0, l1, l2, r1, r2, r3, z1, z2, z3]; first | done | rfl)
def eB (p : T × Bool) : T := .tuple [p.1, .bool p.2]
def bst7 (n a b go wk lim h : T) (day : Int) : List (T × Bool) := [(T7 (.str "A") a b go wk lim h, false), (T7 (.str "a2345678") a b go wk lim h, true), (T7 (.str "a23456789") a b go wk lim h, false), (T7 (.str "2a") a b go wk lim h, false),
  (T7 n (.str "zz") b go wk lim h, false), (T7 n a a go wk lim h, false), (T7 n a b (.int 0) (.int 3) lim h, false), (T7 n a b (.int 9) (.int 20) lim h, true), (T7 n a b (.int 10) (.int 20) lim h, false), (T7 n a b (.int 9) (.int 21) lim h, false), (T7 n a b (.int 3) (.int 2) lim h, false),
  (T7 n a b go wk (.int 10) h, false), (T7 n a b go wk (.int 9) h, true), (T7 n a b go wk (.int (-1)) h, false), (T7 n a b go wk (.bool true) h, false), (T7 n a b go wk lim (.tuple ([(0, day + 1)].map eH)), false), (T7 n a b go wk lim (.tuple ([(1, 1)].map eH)), false), (T7 n a b go wk lim (.tuple ([(0, 1), (1, 2)].map eH)), false),
  (T7 n a b go wk lim (.list [.tuple [.int 0, .int day]]), false), (T7 n a b go wk lim (.tuple ([(-1, 1)].map eH)), false), (.tuple [n, a, b, go, wk, lim], false), (.list [n, a, b, go, wk, lim, h], false), (T7 n a b go wk lim (.tuple ([(0, day), (0, day)].map eH)), false)]
theorem bent_street (ns : List Int) (n k : Nat) (day : Int) (hk : k = n + 1) (hn : n ≤ 100000) : ∃ p ∈ bst7 a b c d e f g day, ∀ r, F__law_bent_street [.c 0, .t (T7 a b c d e f g), .t (.int day)] (DrC ns n :: r) = .ok (.t (eB p)) (DrC ns k :: r) := by
  obtain ⟨p, hp, ep⟩ := pickL_to ns n k (bst7 a b c d e f g day) eB hk hn (by simp [bst7])
  refine ⟨p, hp, fun r => ?_⟩
  obtain ⟨l0, l1, l2, l3, l5, l6, r1, r2, r3, r5, r6, r7⟩ := @sl7 a b c d e f g
  have q0 := fun x cs => (@put7 a b c d e f g x cs).1
  have q1 := fun x cs => (@put7 a b c d e f g x cs).2.1
  have q2 := fun x cs => (@put7 a b c d e f g x cs).2.2.1
  have q5 := fun x cs => (@put7 a b c d e f g x cs).2.2.2.1
  have q6 := fun x cs => (@put7 a b c d e f g x cs).2.2.2.2
  have i1 : idxT (T7 a b c d e f g) (.int 1) = some b := rfl
  have ls : listT (T7 a b c d e f g) = some (.list [a, b, c, d, e, f, g]) := rfl
  have z5 := small_ok (n := 5) (by omega)
  have z7 := small_ok (n := 7) (by omega)
  apply run_go
  simp [l3, l6, r5, q0, q1, q2, q5, q6, i1, ls, z5, z7]
  show Fin_ _ _ ((F__law_pick [.c 0, .t (.list ((bst7 a b c d e f g day).map eB))] (DrC ns n :: r)).bindS _ _)
  rw [ep]
  simp
end Mi
set_option Elab.async false
set_option linter.all false
set_option autoImplicit false
set_option maxRecDepth 100000
set_option maxHeartbeats 1000000
namespace Mi
open PySem PySem.Spec PyProof.Rows L2
theorem nb_A : ∀ cs, F_is_name [.t (.str "A")] cs = .ok (.t (.bool false)) cs := nm_bad _ 65 (by decide +kernel) (by decide +kernel) (fun _ => by decide +kernel)
theorem nb_9 : ∀ cs, F_is_name [.t (.str "a23456789")] cs = .ok (.t (.bool false)) cs := nm_bad _ 97 (by decide +kernel) (by decide +kernel) (fun h => absurd h (by decide +kernel))
theorem nb_2 : ∀ cs, F_is_name [.t (.str "2a")] cs = .ok (.t (.bool false)) cs := nm_bad _ 50 (by decide +kernel) (by decide +kernel) (fun _ => by decide +kernel)
theorem nm_8 : NmOk "a2345678" := nm_ok _ 8 (by decide +kernel) (by decide) 97 (by decide +kernel) (by decide +kernel) (by decide +kernel)
theorem w_i (x l u : Int) (b : Bool) (h : (decide (l ≤ x) && decide (x ≤ u)) = b) (cs : Cs) : F_is_within [.t (.int x), .t (.int l), .t (.int u)] cs = .ok (.t (.bool b)) cs := by
  rw [← h]; simp
theorem w_b (x : Bool) (l u : Int) (cs : Cs) : F_is_within [.t (.bool x), .t (.int l), .t (.int u)] cs = .ok (.t (.bool false)) cs := by simp
theorem w_true {x l u : Int} (h : l ≤ x ∧ x ≤ u) (cs : Cs) : F_is_within [.t (.int x), .t (.int l), .t (.int u)] cs = .ok (.t (.bool true)) cs := w_i x l u true (by simp [h]) cs
theorem w_false {x l u : Int} (h : ¬ (l ≤ x ∧ x ≤ u)) (cs : Cs) : F_is_within [.t (.int x), .t (.int l), .t (.int u)] cs = .ok (.t (.bool false)) cs := w_i x l u false (by simp; omega) cs
/-- a bent street is one, or the check raises -/
def BstOk (c : Cty) (s : Stt) (p : T × Bool) : Prop := (p.2 = true ∧ ∃ s', p.1 = eS s' ∧ StreetOk c s' ∧ (s'.nm = s.nm ∨ s'.nm = "a2345678")) ∨ (p.2 = false ∧ StBad c.js c.day p.1)
theorem bst_ok {c : Cty} {s : Stt} (hc : CityOk c) (h : StreetOk c s) (hzz : ¬ ("zz" : Str) ∈ c.js) : ∀ p ∈ bst7 (.str s.nm) (.str s.one) (.str s.oth) (.int s.go) (.int s.wk) (.int s.lim) (.tuple (s.hrs.map eH)) c.day, BstOk c s p := by
  have k1 := h.nm
  unfold NmOk at k1
  have k2 : ∀ cs, F_is_known [.t (.str s.one), .t (.tuple (c.js.map .str))] cs = .ok (.t (.bool true)) cs := fun cs => by rw [e_known_t (hc.low _ h.one) hc.low, decide_eq_true h.one]
  have k3 : ∀ cs, F_is_known [.t (.str s.oth), .t (.tuple (c.js.map .str))] cs = .ok (.t (.bool true)) cs := fun cs => by rw [e_known_t (hc.low _ h.oth) hc.low, decide_eq_true h.oth]
  have k2z : ∀ cs, F_is_known [.t (.str "zz"), .t (.tuple (c.js.map .str))] cs = .ok (.t (.bool false)) cs := fun cs => by rw [e_known_t low_zz hc.low, decide_eq_false hzz]
  have k4 : eqO (.str s.one) (.str s.oth) = some (.bool false) := by rw [x_eqS, decide_eq_false h.ne]
  have k4z : eqO (.str "zz") (.str s.oth) = some (.bool (decide (("zz" : Str) = s.oth))) := x_eqS _ _
  have k4s : eqO (.str s.one) (.str s.one) = some (.bool true) := by rw [x_eqS, decide_eq_true rfl]
  have k5 := w_true h.go
  have k6 := w_true h.wk
  have k7 := w_true h.lim
  intro p hp
  simp only [bst7, List.mem_cons, List.not_mem_nil, or_false] at hp
  rcases hp with rfl | rfl | rfl | rfl | rfl | rfl | rfl | rfl | rfl | rfl | rfl | rfl | rfl | rfl | rfl | rfl | rfl | rfl | rfl | rfl | rfl | rfl | rfl
  · exact .inr ⟨rfl, street_raw nb_A k2 k3 k4 k5 k6 k7 (.inl rfl)⟩
  · exact .inl ⟨rfl, { s with nm := "a2345678" }, rfl, ⟨nm_8, h.one, h.oth, h.ne, h.go, h.wk, h.lim, h.hl, h.hr⟩, .inr rfl⟩
  · exact .inr ⟨rfl, street_raw nb_9 k2 k3 k4 k5 k6 k7 (.inl rfl)⟩
  · exact .inr ⟨rfl, street_raw nb_2 k2 k3 k4 k5 k6 k7 (.inl rfl)⟩
  · exact .inr ⟨rfl, street_raw k1 k2z k3 k4z k5 k6 k7 (.inl rfl)⟩
  · exact .inr ⟨rfl, street_raw k1 k2 k2 k4s k5 k6 k7 (.inl rfl)⟩
  · exact .inr ⟨rfl, street_raw k1 k2 k3 k4 (w_i 0 1 9 false rfl) (w_i 3 0 20 true rfl) k7 (.inl rfl)⟩
  · exact .inl ⟨rfl, { s with go := 9, wk := 20 }, rfl, ⟨h.nm, h.one, h.oth, h.ne, by simp, by simp, h.lim, h.hl, h.hr⟩, .inl rfl⟩
  · exact .inr ⟨rfl, street_raw k1 k2 k3 k4 (w_i 10 1 9 false rfl) (w_i 20 10 20 true rfl) k7 (.inl rfl)⟩
  · exact .inr ⟨rfl, street_raw k1 k2 k3 k4 (w_i 9 1 9 true rfl) (w_i 21 9 20 false rfl) k7 (.inl rfl)⟩
  · exact .inr ⟨rfl, street_raw k1 k2 k3 k4 (w_i 3 1 9 true rfl) (w_i 2 3 20 false rfl) k7 (.inl rfl)⟩
  · exact .inr ⟨rfl, street_raw k1 k2 k3 k4 k5 k6 (w_i 10 0 9 false rfl) (.inl rfl)⟩
  · exact .inl ⟨rfl, { s with lim := 9 }, rfl, ⟨h.nm, h.one, h.oth, h.ne, h.go, h.wk, by simp, h.hl, h.hr⟩, .inl rfl⟩
  · exact .inr ⟨rfl, street_raw k1 k2 k3 k4 k5 k6 (w_i (-1) 0 9 false rfl) (.inl rfl)⟩
  · exact .inr ⟨rfl, street_raw k1 k2 k3 k4 k5 k6 (w_b true 0 9) (.inl rfl)⟩
  · exact .inr ⟨rfl, street_raw k1 k2 k3 k4 k5 k6 k7 (.inr (hours_bad (by simp) (by simp [hrsBad]; omega) _))⟩
  · exact .inr ⟨rfl, street_raw k1 k2 k3 k4 k5 k6 k7 (.inr (hours_bad (by simp) (by simp [hrsBad]) _))⟩
  · exact .inr ⟨rfl, street_raw k1 k2 k3 k4 k5 k6 k7 (.inr (hours_bad (by simp) (by simp [hrsBad]) _))⟩
  · exact .inr ⟨rfl, street_raw k1 k2 k3 k4 k5 k6 k7 (.inr (hours_list _))⟩
  · exact .inr ⟨rfl, street_raw k1 k2 k3 k4 k5 k6 k7 (.inr (hours_bad (by simp) (by simp [hrsBad]) _))⟩
  · exact .inr ⟨rfl, street_row (fun cs => by simp)⟩
  · exact .inr ⟨rfl, street_row (fun cs => by simp)⟩
  · exact .inr ⟨rfl, street_raw k1 k2 k3 k4 k5 k6 k7 (.inr (hours_bad (by simp) (by have := hc.day; simp [hrsBad]; omega) _))⟩
end Mi
set_option Elab.async false
set_option linter.all false
set_option autoImplicit false
set_option maxRecDepth 100000
set_option maxHeartbeats 1000000
namespace Mi
open PySem PySem.Spec PyProof.Rows L2
/-! ### the parts of a city -/
theorem uniq_le : ∀ (xs acc : List Str), (uniq acc xs).length ≤ acc.length + xs.length
  | [], acc => by simp [uniq]
  | x :: xs, acc => by
    unfold uniq
    refine Nat.le_trans (uniq_le xs _) ?_
    split <;> simp <;> omega
theorem uniq_lt : ∀ (xs acc : List Str), ¬ (acc ++ xs).Nodup → acc.Nodup → (uniq acc xs).length < acc.length + xs.length
  | [], acc, h, h1 => absurd h1 (by simpa using h)
  | x :: xs, acc, h, h1 => by
    unfold uniq
    by_cases hx : x ∈ acc
    · rw [if_pos hx]
      have := uniq_le xs acc
      simp only [List.length_cons]
      omega
    · rw [if_neg hx]
      have := uniq_lt xs (acc ++ [x]) (by simpa using h) (by
        rw [List.nodup_append]
        refine ⟨h1, by simp, fun a ha b hb => ?_⟩
        rw [List.mem_singleton] at hb
        subst hb
        intro e
        exact hx (e ▸ ha))
      simp only [List.length_append, List.length_cons, List.length_nil] at this ⊢
      omega
theorem unlike_bad {xs : List Str} (h : ¬ xs.Nodup) (hl : xs.length ≤ 1000) (cs : Cs) : F_are_unlike [.t (.tuple (xs.map .str))] cs = .ok (.t (.bool false)) cs ∧ F_are_unlike [.t (.list (xs.map .str))] cs = .ok (.t (.bool false)) cs := by
  have h1 := uniq_lt xs [] (by simpa using h) List.nodup_nil
  have h2 : xs.length < 4000 := by omega
  have h3 : ¬ ((uniq [] xs).length : Int) = xs.length := by simp at h1; omega
  have h4 : ¬ (uniq [] xs).length = xs.length := by simp at h1; omega
  constructor <;> (apply run_go; simp [strs_map, h2, h3, h4])
def JunOk (j : T) : Prop := ∀ cs, F_check_junctions [.t j] cs = .ok (.t .none) cs
def JunBad (j : T) : Prop := ∀ cs, ∃ fs, F_check_junctions [.t j] cs = .ex ⟨0, fs⟩ cs
def PloOk (p j : T) : Prop := ∀ cs, F_check_ploughs [.t p, .t j] cs = .ok (.t .none) cs
def PloBad (p j : T) : Prop := ∀ cs, ∃ fs, F_check_ploughs [.t p, .t j] cs = .ex ⟨0, fs⟩ cs
def RulOk (r : T) (n : Nat) : Prop := ∀ cs, F_check_rules [.t r, .t (.int (n : Nat))] cs = .ok (.t .none) cs
def RulBad (r : T) (n : Nat) : Prop := ∀ cs, ∃ fs, F_check_rules [.t r, .t (.int (n : Nat))] cs = .ex ⟨0, fs⟩ cs
theorem jun_list {ts : List T} : JunBad (.list ts) := by
  intro cs
  apply xp_run
  have r1 : ∀ cs, F_is_row [.t (.list ts), .t (.int 1), .t (.int 12)] cs = .ok (.t (.bool false)) cs := fun cs => by simp
  simp [-e_is_row, r1]
theorem jun_twice {js : List Str} (h1 : 1 ≤ js.length ∧ js.length ≤ 12) (h2 : ∀ j ∈ js, NmOk j) (h3 : ¬ js.Nodup) : JunBad (.tuple (js.map .str)) := by
  intro cs
  apply xp_run
  have r1 : ∀ cs, F_is_row [.t (.tuple (js.map .str)), .t (.int 1), .t (.int 12)] cs = .ok (.t (.bool true)) cs := fun cs => by simp; omega
  have r2 := fun cs => (unlike_bad h3 (by omega) cs).1
  simp [-e_is_row, r1]
  rw [dComp_map js .str (fun _ => .bool true) (by simp) (by
    intro j hj d _ _
    have := h2 j hj
    unfold NmOk at this
    simp [this]) (sz_of (by omega))]
  simp [r2]
theorem rul_ok {d l f : Int} {n : Nat} (h1 : 1 ≤ d ∧ d ≤ 60) (h2 : 0 ≤ l ∧ l ≤ 5) (h3 : 0 ≤ f ∧ f ≤ n) : RulOk (R3 (.int d) (.int l) (.int f)) n := by
  intro cs
  apply run_go
  have r1 : ∀ cs, F_is_row [.t (R3 (.int d) (.int l) (.int f)), .t (.int 3), .t (.int 3)] cs = .ok (.t (.bool true)) cs := fun cs => by simp [R3]
  have r2 := w_true h1
  have r3 := w_true h2
  have r4 := w_true h3
  have tg : ∀ t sl cs, tgTup 3 t (.t (R3 (.int d) (.int l) (.int f))) sl cs = t [.t (.int d), .t (.int l), .t (.int f)] sl cs := fun t sl cs => rfl
  simp [-e_is_row, -e_is_within, r1, r2, r3, r4, tg]
theorem rul_bad {d l f : Int} {n : Nat} (h : ¬ (1 ≤ d ∧ d ≤ 60) ∨ ¬ (0 ≤ l ∧ l ≤ 5) ∨ ¬ (0 ≤ f ∧ f ≤ n)) : RulBad (R3 (.int d) (.int l) (.int f)) n := by
  intro cs
  apply xp_run
  have r1 : ∀ cs, F_is_row [.t (R3 (.int d) (.int l) (.int f)), .t (.int 3), .t (.int 3)] cs = .ok (.t (.bool true)) cs := fun cs => by simp [R3]
  have tg : ∀ t sl cs, tgTup 3 t (.t (R3 (.int d) (.int l) (.int f))) sl cs = t [.t (.int d), .t (.int l), .t (.int f)] sl cs := fun t sl cs => rfl
  by_cases h1 : 1 ≤ d ∧ d ≤ 60
  · have r2 := w_true h1
    by_cases h2 : 0 ≤ l ∧ l ≤ 5
    · have r3 := w_true h2
      have r4 := w_false (x := f) (l := 0) (u := (n : Nat)) (by
        rcases h with q | q | q
        · exact absurd h1 q
        · exact absurd h2 q
        · exact q)
      simp [-e_is_row, -e_is_within, r1, r2, r3, r4, tg]
    · have r3 := w_false h2
      simp [-e_is_row, -e_is_within, r1, r2, r3, tg]
  · have r2 := w_false h1
    simp [-e_is_row, -e_is_within, r1, r2, tg]
theorem rul_row {r : T} {n : Nat} (h : ∀ cs, F_is_row [.t r, .t (.int 3), .t (.int 3)] cs = .ok (.t (.bool false)) cs) : RulBad r n := by
  intro cs
  apply xp_run
  simp [-e_is_row, h]
theorem plo_row {p j : T} (h : ∀ cs, F_is_row [.t p, .t (.int 1), .t (.int 4)] cs = .ok (.t (.bool false)) cs) : PloBad p j := by
  intro cs
  apply xp_run
  simp [-e_is_row, h]
theorem plo_ok {js : List Str} {ps : List (Str × Str)} (hj : ∀ j ∈ js, Low j) (h1 : 1 ≤ ps.length ∧ ps.length ≤ 4) (h2 : ∀ p ∈ ps, NmOk p.1 ∧ p.2 ∈ js) : PloOk (.tuple (ps.map eP)) (.tuple (js.map .str)) := by
  intro cs
  apply run_go
  have r1 : ∀ cs, F_is_row [.t (.tuple (ps.map eP)), .t (.int 1), .t (.int 4)] cs = .ok (.t (.bool true)) cs := fun cs => by simp; omega
  simp [-e_is_row, r1]
  refine seq_for ps eP (fun d sl cs' => cs' = cs ∧ ∃ u, sl = [some (.t (.tuple (ps.map eP))), some (.t (.tuple (js.map .str))), u]) (by simp) ⟨rfl, _, rfl⟩ ?_ ?_
  · rintro d ⟨n, j⟩ r sl cs' e ⟨rfl, u, rfl⟩
    have hp := h2 _ (mid_mem e)
    have r2 : ∀ cs, F_is_row [.t (.tuple [.str n, .str j]), .t (.int 2), .t (.int 2)] cs = .ok (.t (.bool true)) cs := fun cs => by simp
    have r3 : ∀ cs, F_is_known [.t (.str j), .t (.tuple (js.map .str))] cs = .ok (.t (.bool true)) cs := fun cs => by rw [e_known_t (hj _ hp.2) hj, decide_eq_true hp.2]
    have r4 := hp.1
    unfold NmOk at r4
    simp [-e_is_row, eP, r2, r3, r4]
  · rintro sl cs' ⟨rfl, u, rfl⟩
    simp
theorem plo_bad {js : List Str} {ps : List (Str × Str)} (hj : ∀ j ∈ js, Low j) (h1 : 1 ≤ ps.length ∧ ps.length ≤ 4) (h2 : ∀ p ∈ ps, NmOk p.1 ∧ Low p.2) (h3 : ∃ p ∈ ps, ¬ p.2 ∈ js) : PloBad (.tuple (ps.map eP)) (.tuple (js.map .str)) := by
  intro cs
  apply xp_run
  have r1 : ∀ cs, F_is_row [.t (.tuple (ps.map eP)), .t (.int 1), .t (.int 4)] cs = .ok (.t (.bool true)) cs := fun cs => by simp; omega
  simp [-e_is_row, r1]
  refine seq_for ps eP (fun d sl cs' => cs' = cs ∧ (∀ p ∈ d, p.2 ∈ js) ∧ ∃ u, sl = [some (.t (.tuple (ps.map eP))), some (.t (.tuple (js.map .str))), u]) (by simp) ⟨rfl, by simp, _, rfl⟩ ?_ ?_
  · rintro d ⟨n, j⟩ r sl cs' e ⟨rfl, hd, u, rfl⟩
    have hp := h2 _ (mid_mem e)
    have r2 : ∀ cs, F_is_row [.t (.tuple [.str n, .str j]), .t (.int 2), .t (.int 2)] cs = .ok (.t (.bool true)) cs := fun cs => by simp
    have r4 := hp.1
    unfold NmOk at r4
    by_cases hm : j ∈ js
    · have r3 : ∀ cs, F_is_known [.t (.str j), .t (.tuple (js.map .str))] cs = .ok (.t (.bool true)) cs := fun cs => by rw [e_known_t hp.2 hj, decide_eq_true hm]
      simp [-e_is_row, eP, r2, r3, r4]
      rintro a b (q | ⟨rfl, rfl⟩)
      · exact hd (a, b) q
      · exact hm
    · have r3 : ∀ cs, F_is_known [.t (.str j), .t (.tuple (js.map .str))] cs = .ok (.t (.bool false)) cs := fun cs => by rw [e_known_t hp.2 hj, decide_eq_false hm]
      simp [-e_is_row, eP, r2, r3, r4]
  · rintro sl cs' ⟨rfl, hd, u, rfl⟩
    obtain ⟨p, hp, hq⟩ := h3
    exact absurd (hd p hp) hq
end Mi
set_option Elab.async false
set_option linter.all false
set_option autoImplicit false
set_option maxRecDepth 100000
set_option maxHeartbeats 1000000
namespace Mi
open PySem PySem.Spec PyProof.Rows L2
/-! ### what is no city -/
def C4 (j s p r : T) : T := .tuple [j, s, p, r]
theorem tg4 (j s p r : T) (t : DGs) (sl : Sl) (cs : Cs) : tgTup 4 t (.t (C4 j s p r)) sl cs = t [.t j, .t s, .t p, .t r] sl cs := rfl
theorem row4 (j s p r : T) (cs : Cs) : F_is_row [.t (C4 j s p r), .t (.int 4), .t (.int 4)] cs = .ok (.t (.bool true)) cs := by simp [C4]
theorem city_row {x : T} (h : ∀ cs, F_is_row [.t x, .t (.int 4), .t (.int 4)] cs = .ok (.t (.bool false)) cs) : CkBad x := by
  intro cs
  apply xp_run
  simp [-e_is_row, h]
theorem city_jun {j s p r : T} (h : JunBad j) : CkBad (C4 j s p r) := by
  intro cs
  obtain ⟨fs, hf⟩ := h cs
  apply xp_run
  simp [-e_is_row, row4, tg4, hf]
theorem city_plo {j s p r : T} (h1 : JunOk j) (h : PloBad p j) : CkBad (C4 j s p r) := by
  intro cs
  obtain ⟨fs, hf⟩ := h cs
  have e1 := h1 cs
  apply xp_run
  simp [-e_is_row, row4, tg4, e1, hf]
theorem city_rul {j s r : T} {ps : List T} (h1 : JunOk j) (h2 : PloOk (.tuple ps) j) (h : RulBad r ps.length) : CkBad (C4 j s (.tuple ps) r) := by
  intro cs
  obtain ⟨fs, hf⟩ := h cs
  have e1 := h1 cs
  have e2 := h2 cs
  apply xp_run
  simp [-e_is_row, row4, tg4, e1, e2, hf]
theorem city_un {c : Cty} (h0 : ∀ j ∈ c.js, Low j) (h1 : JunOk (.tuple (c.js.map .str))) (h2 : PloOk (.tuple (c.ps.map eP)) (.tuple (c.js.map .str))) (h3 : RulOk (R3 (.int c.day) (.int c.late) (.int c.falls)) c.ps.length) (h4 : ∀ s ∈ c.ss, StreetOk c s) (h5 : c.ss.length ≤ 20) (h6 : c.ps.length ≤ 20) (h : ¬ (c.ss.map (·.nm) ++ c.ps.map (·.1)).Nodup) : CkBad (eC c) := by
  intro cs
  have e1 := h1 cs
  have e2 := h2 cs
  have e3 := h3 cs
  unfold R3 at e3
  apply xp_run
  have r1 : ∀ cs, F_is_row [.t (eC c), .t (.int 4), .t (.int 4)] cs = .ok (.t (.bool true)) cs := fun cs => by simp [eC]
  have r2 : ∀ cs, F_is_row [.t (.tuple (c.ss.map eS)), .t (.int 0), .t (.int 20)] cs = .ok (.t (.bool true)) cs := fun cs => by simp; omega
  simp [-e_is_row, r1, r2, tgC, e1, e2, e3]
  refine seq_for c.ss eS (fun d sl cs' => cs' = cs ∧ ∃ u, sl = [some (.t (eC c)), u, some (.t (.tuple (c.js.map .str))), some (.t (.tuple (c.ss.map eS))), some (.t (.tuple (c.ps.map eP))), some (.t (.tuple [.int c.day, .int c.late, .int c.falls])), none]) (by simp) ⟨rfl, _, rfl⟩ ?_ ?_
  · rintro d s r sl cs' e ⟨rfl, u, rfl⟩
    simp [e_check_street h0 (h4 s (mid_mem e))]
  · rintro sl cs' ⟨rfl, u, rfl⟩
    have hl : c.ss.length + c.ps.length ≤ sizeLine := sz_of (by omega)
    have e0 : c.ss.map eS ++ c.ps.map eP = (c.ss.map Sum.inl ++ c.ps.map Sum.inr).map eCP := by simp [Function.comp_def, eCP]
    have e1 : (c.ss.map Sum.inl ++ c.ps.map Sum.inr).map nCP = c.ss.map (·.nm) ++ c.ps.map (·.1) := by simp [Function.comp_def, nCP]
    have e2 : List.map (fun x => PyData.str (nCP x)) (c.ss.map Sum.inl ++ c.ps.map Sum.inr) = (c.ss.map (·.nm) ++ c.ps.map (·.1)).map PyData.str := by rw [← e1, List.map_map]; rfl
    simp
    rw [dComp_map (c.ss.map Sum.inl ++ c.ps.map Sum.inr) eCP (fun x => .str (nCP x)) (by simp only [x_iter_c, x_add, x_var, List.getElem?_cons_succ, List.getElem?_cons_zero, x_bind_ok, x_op2, x_res, x_addTup, List.length_map, hl, if_true, x_seqT, e0]) (by
      intro x hx d _ _
      cases x with
      | inl s => simp [eCP, nCP]
      | inr p => simp [eCP, eP, nCP]) (by simpa using hl)]
    rw [e2]
    simp only [x_bind_ok]
    rw [(unlike_bad h (by simp; omega) cs').2]
    simp
end Mi
set_option Elab.async false
set_option linter.all false
set_option autoImplicit false
set_option maxRecDepth 100000
set_option maxHeartbeats 1000000
namespace Mi
open PySem PySem.Spec PyProof.Rows L2
/-! ### bent cities -/
def cJ (c : Cty) : T := .tuple (c.js.map .str)
def cS (c : Cty) : T := .tuple (c.ss.map eS)
def cP (c : Cty) : T := .tuple (c.ps.map eP)
def cR (c : Cty) : T := R3 (.int c.day) (.int c.late) (.int c.falls)
def bct (c : Cty) (j0 : Str) (s0 : Stt) (p0 : Str × Str) : List (T × Bool) := [(C4 (cJ c) (cS c) (cP c) (R3 (.int 0) (.int c.late) (.int c.falls)), false), (C4 (cJ c) (.tuple []) (cP c) (R3 (.int 60) (.int c.late) (.int c.falls)), true),
  (C4 (cJ c) (cS c) (cP c) (R3 (.int c.day) (.int 6) (.int c.falls)), false), (C4 (cJ c) (cS c) (cP c) (R3 (.int c.day) (.int 5) (.int c.falls)), true), (C4 (cJ c) (cS c) (cP c) (R3 (.int c.day) (.int c.late) (.int ((c.ps.length : Nat) + 1))), false), (C4 (cJ c) (cS c) (cP c) (R3 (.int c.day) (.int c.late) (.int (c.ps.length : Nat))), true),
  (C4 (cJ c) (cS c) (.tuple []) (cR c), false), (C4 (cJ c) (cS c) (.tuple ((c.ps ++ [(("p9" : Str), ("zz" : Str))]).map eP)) (cR c), false), (C4 (cJ c) (cS c) (.tuple ((c.ps ++ [p0]).map eP)) (cR c), false), (C4 (cJ c) (cS c) (.tuple ([(("s0" : Str), j0)].map eP)) (R3 (.int c.day) (.int 0) (.int 0)), false),
  (C4 (.tuple ((c.js ++ [j0]).map .str)) (cS c) (cP c) (cR c), false), (C4 (.list (c.js.map .str)) (cS c) (cP c) (cR c), false), (.tuple [cJ c, cS c, cP c], false), (C4 (cJ c) (cS c) (cP c) (.tuple [.int c.day, .int c.late]), false), (.none, false), (C4 (cJ c) (.tuple ((c.ss ++ [s0]).map eS)) (cP c) (cR c), false),
  (C4 (.tuple ([("a" : Str)].map .str)) (.tuple []) (.tuple ([(("p0" : Str), ("a" : Str))].map eP)) (R3 (.int c.day) (.int c.late) (.int 0)), true), (C4 (cJ c) (cS c) (.tuple ([(("p0" : Str), j0), (("p1" : Str), j0), (("p2" : Str), j0), (("p3" : Str), j0)].map eP)) (cR c), true)]
def BctOk (p : T × Bool) : Prop := (p.2 = true ∧ CkOk p.1) ∨ (p.2 = false ∧ CkBad p.1)
theorem nm_p3 : NmOk "p3" := nm_ok _ 2 (by decide +kernel) (by decide) 112 (by decide +kernel) (by decide +kernel) (by decide +kernel)
theorem nm_p9 : NmOk "p9" := nm_ok _ 2 (by decide +kernel) (by decide) 112 (by decide +kernel) (by decide +kernel) (by decide +kernel)
theorem low_a : Low "a" := by unfold Low; decide +kernel
theorem dup_end {α : Type} {x : α} {xs : List α} (h : x ∈ xs) : ¬ (xs ++ [x]).Nodup := by
  intro e
  rw [List.nodup_append] at e
  exact e.2.2 x h x (by simp) rfl
theorem a12 {P : Nat → Prop} {a : Nat} (h : 1 ≤ a ∧ a ≤ 2) (h1 : P 1) (h2 : P 2) : P a := by
  have : a = 1 ∨ a = 2 := by omega
  rcases this with rfl | rfl
  · exact h1
  · exact h2
theorem street_to {c c' : Cty} {s : Stt} (h : StreetOk c s) (e1 : c'.js = c.js) (e2 : c'.day = c.day) : StreetOk c' s := ⟨h.nm, e1 ▸ h.one, e1 ▸ h.oth, h.ne, h.go, h.wk, h.lim, h.hl, e2 ▸ h.hr⟩
theorem bct_ok {c : Cty} {j0 : Str} {s0 : Stt} {p0 : Str × Str} (hd : CityD c) (hj0 : j0 ∈ c.js) (hs0 : s0 ∈ c.ss) (hp0 : p0 ∈ c.ps) : ∀ p ∈ bct c j0 s0 p0, BctOk p := by
  have hc := hd.ok
  have hjl := hd.js.len
  obtain ⟨a, b, ha, hb, na, nb⟩ := hd.ab
  have la : c.ss.length = a := by simpa using congrArg List.length na
  have lb : c.ps.length = b := by simpa using congrArg List.length nb
  have hf := hc.falls
  have o1 : JunOk (cJ c) := e_check_junctions hc
  have o2 : PloOk (cP c) (cJ c) := e_check_ploughs hc
  have o3 : RulOk (cR c) c.ps.length := e_check_rules hc
  intro p hp
  simp only [bct, List.mem_cons, List.not_mem_nil, or_false] at hp
  rcases hp with rfl | rfl | rfl | rfl | rfl | rfl | rfl | rfl | rfl | rfl | rfl | rfl | rfl | rfl | rfl | rfl | rfl | rfl
  · exact .inr ⟨rfl, city_rul o1 o2 (by rw [List.length_map]; exact rul_bad (.inl (by omega)))⟩
  · refine .inl ⟨rfl, e_check_city (c := { c with ss := [], day := 60 }) ⟨hc.low, hc.js1, hc.js2, hc.js3, hc.ps1, hc.ps2, by simp, hc.late, hc.falls, by simp, by simp, ?_⟩⟩
    exact (List.nodup_append.mp hc.un).2.1
  · exact .inr ⟨rfl, city_rul o1 o2 (by rw [List.length_map]; exact rul_bad (.inr (.inl (by omega))))⟩
  · exact .inl ⟨rfl, e_check_city (c := { c with late := 5 }) ⟨hc.low, hc.js1, hc.js2, hc.js3, hc.ps1, hc.ps2, hc.day, by simp, hc.falls, hc.ss1, fun s hs => street_to (hc.ss2 s hs) rfl rfl, hc.un⟩⟩
  · exact .inr ⟨rfl, city_rul o1 o2 (by rw [List.length_map]; exact rul_bad (.inr (.inr (by omega))))⟩
  · exact .inl ⟨rfl, e_check_city (c := { c with falls := (c.ps.length : Nat) }) ⟨hc.low, hc.js1, hc.js2, hc.js3, hc.ps1, hc.ps2, hc.day, hc.late, by simp, hc.ss1, fun s hs => street_to (hc.ss2 s hs) rfl rfl, hc.un⟩⟩
  · exact .inr ⟨rfl, city_plo o1 (plo_row (fun cs => by simp))⟩
  · refine .inr ⟨rfl, city_plo o1 (plo_bad hc.low (by simp; omega) ?_ ⟨(("p9" : Str), ("zz" : Str)), by simp, hd.zz⟩)⟩
    intro q hq
    rw [List.mem_append, List.mem_singleton] at hq
    rcases hq with hq | rfl
    · exact ⟨(hc.ps2 q hq).1, hc.low _ (hc.ps2 q hq).2⟩
    · exact ⟨nm_p9, low_zz⟩
  · refine .inr ⟨rfl, city_un (c := { c with ps := c.ps ++ [p0] }) hc.low o1 (plo_ok hc.low (by simp; omega) ?_) (rul_ok hc.day hc.late (by simp; omega)) (fun s hs => street_to (hc.ss2 s hs) rfl rfl) hc.ss1 (by simp; omega) ?_⟩
    · intro q hq
      rw [List.mem_append, List.mem_singleton] at hq
      rcases hq with hq | rfl
      · exact hc.ps2 q hq
      · exact hc.ps2 _ hp0
    · simp only [List.map_append, List.map_cons, List.map_nil, ← List.append_assoc]
      exact dup_end (List.mem_append_right _ (List.mem_map.mpr ⟨p0, hp0, rfl⟩))
  · refine .inr ⟨rfl, city_un (c := { c with ps := [(("s0" : Str), j0)], late := 0, falls := 0 }) hc.low o1 (plo_ok hc.low (by simp) ?_) (rul_ok hc.day (by simp) (by simp)) (fun s hs => street_to (hc.ss2 s hs) rfl rfl) hc.ss1 (by simp) ?_⟩
    · intro q hq
      rw [List.mem_singleton] at hq
      subst hq
      exact ⟨nm_s0, hj0⟩
    · simp only [na, List.map_cons, List.map_nil]
      exact a12 (P := fun a => ¬ ((List.range a).map sN ++ [("s0" : Str)]).Nodup) ha (by decide +kernel) (by decide +kernel)
  · refine .inr ⟨rfl, city_jun (jun_twice (by simp; omega) ?_ (dup_end hj0))⟩
    intro j hj
    rw [List.mem_append, List.mem_singleton] at hj
    rcases hj with hj | rfl
    · exact hc.js2 j hj
    · exact hc.js2 _ hj0
  · exact .inr ⟨rfl, city_jun jun_list⟩
  · exact .inr ⟨rfl, city_row (fun cs => by simp)⟩
  · exact .inr ⟨rfl, city_rul o1 o2 (rul_row (fun cs => by simp))⟩
  · exact .inr ⟨rfl, city_row (fun cs => by simp)⟩
  · refine .inr ⟨rfl, city_un (c := { c with ss := c.ss ++ [s0] }) hc.low o1 o2 o3 ?_ (by simp; omega) (by simp only; omega) ?_⟩
    · intro s hs
      rw [List.mem_append, List.mem_singleton] at hs
      rcases hs with hs | rfl
      · exact street_to (hc.ss2 s hs) rfl rfl
      · exact street_to (hc.ss2 _ hs0) rfl rfl
    · intro e
      have := (List.nodup_append.mp e).1
      simp only [List.map_append, List.map_cons, List.map_nil] at this
      exact dup_end (List.mem_map.mpr ⟨s0, hs0, rfl⟩) this
  · refine .inl ⟨rfl, e_check_city (c := ⟨[("a" : Str)], [], [(("p0" : Str), ("a" : Str))], c.day, c.late, 0⟩) ⟨?_, by simp, ?_, by simp, by simp, ?_, hc.day, hc.late, by simp, by simp, by simp, by simp⟩⟩
    · intro j hj
      rw [List.mem_singleton] at hj
      subst hj
      exact low_a
    · intro j hj
      rw [List.mem_singleton] at hj
      subst hj
      exact nm_a
    · intro q hq
      rw [List.mem_singleton] at hq
      subst hq
      exact ⟨nm_p0, by simp⟩
  · refine .inl ⟨rfl, e_check_city (c := { c with ps := [(("p0" : Str), j0), (("p1" : Str), j0), (("p2" : Str), j0), (("p3" : Str), j0)] }) ⟨hc.low, hc.js1, hc.js2, hc.js3, by simp, ?_, hc.day, hc.late, by simp only [List.length_cons, List.length_nil]; omega, hc.ss1, fun s hs => street_to (hc.ss2 s hs) rfl rfl, ?_⟩⟩
    · intro q hq
      simp only [List.mem_cons, List.not_mem_nil, or_false] at hq
      rcases hq with rfl | rfl | rfl | rfl
      · exact ⟨nm_p0, hj0⟩
      · exact ⟨nm_p1, hj0⟩
      · exact ⟨nm_p2, hj0⟩
      · exact ⟨nm_p3, hj0⟩
    · simp only [na, List.map_cons, List.map_nil]
      exact a12 (P := fun a => ((List.range a).map sN ++ [("p0" : Str), ("p1" : Str), ("p2" : Str), ("p3" : Str)]).Nodup) ha (by decide +kernel) (by decide +kernel)
end Mi
set_option Elab.async false
set_option linter.all false
set_option autoImplicit false
set_option maxRecDepth 100000
set_option maxHeartbeats 1000000
namespace Mi
open PySem PySem.Spec PyProof.Rows L2
/-! ### the drawn bent city -/
theorem tup_hd (x : T) (xs : List T) (h : xs.length ≤ 2) : idxT (.tuple (x :: xs)) (.int 0) = some x ∧ sliceT (.tuple (x :: xs)) none (some 1) = some (.tuple [x]) ∧ sliceT (.tuple (x :: xs)) (some 1) none = some (.tuple xs) := by
  match xs, h with
  | [], _ => exact ⟨rfl, rfl, rfl⟩
  | [_], _ => exact ⟨rfl, rfl, rfl⟩
  | [_, _], _ => exact ⟨rfl, rfl, rfl⟩
  | _ :: _ :: _ :: _, h => simp at h
theorem add_tup {xs ys : List T} (h : xs.length + ys.length ≤ 1000) : addT (.tuple xs) (.tuple ys) = some (.tuple (xs ++ ys)) := by
  rw [x_addTup, if_pos (small_ok h)]
theorem bst_city {c : Cty} {s0 : Stt} {rest : List Stt} {p : T × Bool} (hd : CityD c) (hS : c.ss = s0 :: rest) (hp : BstOk c s0 p) : BctOk (C4 (cJ c) (.tuple (p.1 :: rest.map eS)) (cP c) (cR c), p.2) := by
  have hc := hd.ok
  have hs1 := hd.s1
  have hm : ∀ s ∈ rest, s ∈ c.ss := fun s hs => by rw [hS]; exact List.mem_cons_of_mem _ hs
  obtain ⟨a, b, ha, hb, na, nb⟩ := hd.ab
  rw [hS] at hs1
  simp only [List.length_cons] at hs1
  rcases hp with ⟨h1, s', h2, h3, h4⟩ | ⟨h1, h2⟩
  · refine .inl ⟨h1, ?_⟩
    simp only [h2]
    refine e_check_city (c := { c with ss := s' :: rest }) ⟨hc.low, hc.js1, hc.js2, hc.js3, hc.ps1, hc.ps2, hc.day, hc.late, hc.falls, by simp; omega, ?_, ?_⟩
    · intro s hs
      rw [List.mem_cons] at hs
      rcases hs with rfl | hs
      · exact street_to h3 rfl rfl
      · exact street_to (hc.ss2 s (hm s hs)) rfl rfl
    · rcases h4 with h4 | h4
      · have := hc.un
        rw [hS] at this
        simpa [h4] using this
      · rw [hS] at na
        simp only [List.map_cons, h4, nb]
        have l1 : rest.length + 1 = a := by simpa using congrArg List.length na
        have b3 : b = 1 ∨ b = 2 ∨ b = 3 := by omega
        match rest, l1, na with
        | [], _, _ =>
          rcases b3 with rfl | rfl | rfl <;> decide +kernel
        | [t], l1, na =>
          have : a = 2 := by simpa using l1.symm
          subst this
          simp [List.range_succ] at na
          have ht : t.nm = "s1" := na.2
          simp only [List.map_cons, List.map_nil, ht]
          rcases b3 with rfl | rfl | rfl <;> decide +kernel
        | _ :: _ :: _, l1, _ => simp at l1; omega
  · exact .inr ⟨h1, city_street (ss := rest) hc (by omega) h2⟩
theorem bent_city {c : Cty} (hd : CityD c) (ns : List Int) (n : Nat) (hn : n ≤ 50000) : ∃ p, BctOk p ∧ ∀ r, F__law_bent_city [.c 0, .t (eC c)] (DrC ns n :: r) = .ok (.t (eB p)) (DrC ns (n + 2) :: r) := by
  have hc := hd.ok
  have hs1 := hd.s1
  obtain ⟨a, b, ha, hb, na, nb⟩ := hd.ab
  have lb : c.ps.length = b := by simpa using congrArg List.length nb
  have lj := hd.js.len
  obtain ⟨s0, rest, hS⟩ : ∃ s r, c.ss = s :: r := by
    cases e : c.ss with
    | nil => rw [e] at hs1; simp at hs1
    | cons s r => exact ⟨s, r, rfl⟩
  obtain ⟨p0, prest, hP⟩ : ∃ s r, c.ps = s :: r := by
    cases e : c.ps with
    | nil => rw [e] at lb; simp at lb; omega
    | cons s r => exact ⟨s, r, rfl⟩
  obtain ⟨j0, jrest, hJ⟩ : ∃ s r, c.js = s :: r := by
    cases e : c.js with
    | nil => rw [e] at lj; simp at lj
    | cons s r => exact ⟨s, r, rfl⟩
  have lS : rest.length ≤ 1 := by rw [hS] at hs1; simp at hs1; omega
  have lP : prest.length ≤ 2 := by rw [hP] at lb; simp at lb; omega
  have lJ : jrest.length ≤ 2 := by rw [hJ] at lj; simp at lj; omega
  have eSs : cS c = .tuple (eS s0 :: rest.map eS) := by unfold cS; rw [hS]; rfl
  have ePs : cP c = .tuple (eP p0 :: prest.map eP) := by unfold cP; rw [hP]; rfl
  have eJs : cJ c = .tuple (.str j0 :: jrest.map .str) := by unfold cJ; rw [hJ]; rfl
  obtain ⟨iS, sS0, sS1⟩ := tup_hd (eS s0) (rest.map eS) (by simp; omega)
  obtain ⟨_, sP0, _⟩ := tup_hd (eP p0) (prest.map eP) (by simp; omega)
  obtain ⟨iJ, sJ0, _⟩ := tup_hd (.str j0) (jrest.map .str) (by simp; omega)
  rw [← eSs] at iS sS0 sS1
  rw [← ePs] at sP0
  rw [← eJs] at iJ sJ0
  have iR : idxT (cR c) (.int 0) = some (.int c.day) := rfl
  have tg : ∀ t sl cs, tgTup 4 t (.t (eC c)) sl cs = t [.t (cJ c), .t (cS c), .t (cP c), .t (cR c)] sl cs := fun t sl cs => rfl
  have hs0 : s0 ∈ c.ss := by rw [hS]; simp
  obtain ⟨v, v1, v2, ev⟩ := next_to ns n (n + 1) 4 rfl (by omega) (by omega)
  by_cases hv : v < 2
  · obtain ⟨p, hp, ep⟩ := bent_street (a := .str s0.nm) (b := .str s0.one) (c := .str s0.oth) (d := .int s0.go) (e := .int s0.wk) (f := .int s0.lim) (g := .tuple (s0.hrs.map eH)) ns (n + 1) (n + 2) c.day rfl (by omega)
    have ep' : ∀ r, F__law_bent_street [.c 0, .t (eS s0), .t (.int c.day)] (DrC ns (n + 1) :: r) = .ok (.t (eB p)) (DrC ns (n + 2) :: r) := ep
    refine ⟨_, bst_city hd hS (bst_ok hc (hc.ss2 s0 hs0) hd.zz p hp), fun r => ?_⟩
    have tg2 : ∀ t sl cs, tgTup 2 t (.t (eB p)) sl cs = t [.t p.1, .t (.bool p.2)] sl cs := fun t sl cs => rfl
    have aX : addT (.tuple [p.1]) (.tuple (rest.map eS)) = some (.tuple (p.1 :: rest.map eS)) := add_tup (by simp; omega)
    apply run_go
    simp [tg, ev, hv, iS, iR, ep', tg2, sS1, aX]
    rfl
  · obtain ⟨p, hp, ep⟩ := pickL_to ns (n + 1) (n + 2) (bct c j0 s0 p0) eB rfl (by omega) (by simp [bct])
    refine ⟨p, bct_ok hd (by rw [hJ]; simp) hs0 (by rw [hP]; simp) p hp, fun r => ?_⟩
    have lenP : lenT (cP c) = some (.int (c.ps.length : Nat)) := by
      have : c.ps.length ≤ sizeLine := small_ok (by omega)
      simp [cP]
    have sR2 : sliceT (cR c) none (some 2) = some (.tuple [.int c.day, .int c.late]) := rfl
    have aR : addT (.tuple [.int c.day, .int c.late]) (.tuple [.int 0]) = some (R3 (.int c.day) (.int c.late) (.int 0)) := add_tup (by simp)
    have aS : addT (cS c) (.tuple [eS s0]) = some (.tuple ((c.ss ++ [s0]).map eS)) := by rw [List.map_append]; exact add_tup (by simp; omega)
    have aP : ∀ q, addT (cP c) (.tuple [eP q]) = some (.tuple ((c.ps ++ [q]).map eP)) := fun q => by rw [List.map_append]; exact add_tup (by simp; omega)
    have aP9 : addT (cP c) (.tuple [.tuple [.str "p9", .str "zz"]]) = some (.tuple ((c.ps ++ [(("p9" : Str), ("zz" : Str))]).map eP)) := aP (("p9" : Str), ("zz" : Str))
    have aJ : addT (cJ c) (.tuple [.str j0]) = some (.tuple ((c.js ++ [j0]).map .str)) := by rw [List.map_append]; exact add_tup (by simp; omega)
    have lsJ : listT (cJ c) = some (.list (c.js.map .str)) := rfl
    have q0 : ∀ x cs, F__law_put [.t (cR c), .t (.int 0), .t x] cs = .ok (.t (R3 x (.int c.late) (.int c.falls))) cs := fun x cs => (put3 cs).1
    have q1 : ∀ x cs, F__law_put [.t (cR c), .t (.int 1), .t x] cs = .ok (.t (R3 (.int c.day) x (.int c.falls))) cs := fun x cs => (put3 cs).2.1
    have q2 : ∀ x cs, F__law_put [.t (cR c), .t (.int 2), .t x] cs = .ok (.t (R3 (.int c.day) (.int c.late) x)) cs := fun x cs => (put3 cs).2.2
    apply run_go
    simp [-List.map_append, tg, ev, hv, iJ, iR, sS0, sP0, sJ0, lenP, sR2, aR, aS, aP, aP9, aJ, lsJ, q0, q1, q2]
    show Fin_ _ _ ((F__law_pick [.c 0, .t (.list ((bct c j0 s0 p0).map eB))] (DrC ns (n + 1) :: r)).bindS _ _)
    rw [ep]
    simp
end Mi
set_option Elab.async false
set_option linter.all false
set_option autoImplicit false
set_option maxRecDepth 100000
set_option maxHeartbeats 1000000
namespace Mi
open PySem PySem.Spec PyProof.Rows L2
/-! ### what is no sky -/
def YP (n : Nat) (cs : Cs) (o : RS) : Prop := ∃ fs, Fin_ n (.ex ⟨1, fs⟩ cs) o
@[simp] theorem yp_ex (n : Nat) (cs : Cs) (fs : _) (sl : Sl) (c : Cs) : YP n cs (.ex ⟨1, fs⟩ sl c) = (c.take n = cs) := by
  apply propext
  constructor
  · rintro ⟨gs, h⟩
    rw [fin_ex] at h
    cases h
    rfl
  · intro h
    exact ⟨fs, by rw [fin_ex, h]⟩
theorem yp_run {N : Nat} {body : DS} {rs : List SV} {cs : Cs} (h : YP cs.length cs (body (rs.map some ++ List.replicate (N - rs.length) none) cs)) : ∃ fs, runF N body rs cs = .ex ⟨1, fs⟩ cs := by
  obtain ⟨fs, h⟩ := h
  exact ⟨fs, run_go h⟩
def SkBad (c : Cty) (t : T) : Prop := ∀ cs, ∃ fs, F_check_sky [.t (eC c), .t t] cs = .ex ⟨1, fs⟩ cs
def SkOk (c : Cty) (t : T) : Prop := ∀ cs, F_check_sky [.t (eC c), .t t] cs = .ok (.t .none) cs
theorem is_sky_ok {c : Cty} {t : T} (h : SkOk c t) (cs : Cs) : F_is_sky [.t (eC c), .t t] cs = .ok (.t (.bool true)) cs := by
  apply run_go
  simp [x_seq_tryO, dTryO, h cs]
theorem is_sky_bad {c : Cty} {t : T} (h : SkBad c t) (cs : Cs) : F_is_sky [.t (eC c), .t t] cs = .ok (.t (.bool false)) cs := by
  obtain ⟨fs, h⟩ := h cs
  apply run_go
  simp [x_seq_tryO, dTryO, h, clearO]
def ArGood (ks sn : List Str) (a : Arc) : Prop := a.1 ∈ ks ∧ a.2.length ≤ sn.length ∧ (∀ f ∈ a.2, f ∈ sn) ∧ a.2.Nodup
theorem arcs_bad {nm : T} {ks sn : List Str} {as : List Arc} (hk : ∀ y ∈ ks, Low y) (hs : ∀ y ∈ sn, Low y) (hn : sn.length ≤ 20) (ha : ∀ a ∈ as, Low a.1 ∧ (∀ f ∈ a.2, Low f) ∧ a.2.length ≤ 20) (h : ¬ (1 ≤ as.length ∧ as.length ≤ 12) ∨ ∃ a ∈ as, ¬ ArGood ks sn a) (cs : Cs) :
    ∃ fs, F_check_arcs [.t nm, .t (.tuple (as.map eA)), .t (.list (ks.map .str)), .t (.list (sn.map .str))] cs = .ex ⟨1, fs⟩ cs := by
  apply yp_run
  by_cases hl : 1 ≤ as.length ∧ as.length ≤ 12
  · have hb : ∃ a ∈ as, ¬ ArGood ks sn a := by
      rcases h with h | h
      · exact absurd hl h
      · exact h
    have r1 : ∀ cs, F_is_row [.t (.tuple (as.map eA)), .t (.int 1), .t (.int 12)] cs = .ok (.t (.bool true)) cs := fun cs => by simp; omega
    simp [-e_is_row, r1]
    refine seq_for as eA (fun d sl cs' => cs' = cs ∧ (∀ a ∈ d, ArGood ks sn a) ∧ ∃ u4 u5, sl = [some (.t nm), some (.t (.tuple (as.map eA))), some (.t (.list (ks.map .str))), some (.t (.list (sn.map .str))), u4, u5, none]) (by simp) ⟨rfl, by simp, _, _, rfl⟩ ?_ ?_
    · rintro d a r sl cs' e ⟨rfl, hd, u4, u5, rfl⟩
      obtain ⟨l1, l2, l3⟩ := ha a (mid_mem e)
      have r2 : ∀ cs, F_is_row [.t (eA a), .t (.int 2), .t (.int 2)] cs = .ok (.t (.bool true)) cs := fun cs => by simp [eA]
      have lsn : lenT (.list (sn.map .str)) = some (.int (sn.length : Nat)) := by
        have : sn.length ≤ sizeLine := small_ok (by omega)
        simp
      by_cases h1 : a.1 ∈ ks
      · have r3 : ∀ cs, F_is_known [.t (.str a.1), .t (.list (ks.map .str))] cs = .ok (.t (.bool true)) cs := fun cs => by rw [e_known_l l1 hk, decide_eq_true h1]
        by_cases h2 : a.2.length ≤ sn.length
        · have r4 : ∀ cs, F_is_row [.t (.tuple (a.2.map .str)), .t (.int 0), .t (.int (sn.length : Nat))] cs = .ok (.t (.bool true)) cs := fun cs => by simp; omega
          simp [-e_is_row, r2, r3, r4]
          rw [dComp_map a.2 .str (fun f => .bool (decide (f ∈ sn))) (by simp) (by
            intro f hf d _ _
            have r5 : ∀ cs, F_is_known [.t (.str f), .t (.list (sn.map .str))] cs = .ok (.t (.bool (decide (f ∈ sn)))) cs := fun cs => by rw [e_known_l (l2 f hf) hs]
            simp [r5]) (sz_of (by omega))]
          have hall : allT (.list (a.2.map fun f => .bool (decide (f ∈ sn)))) = some (.bool (a.2.all fun f => decide (f ∈ sn))) := x_allM _ _
          cases h3 : (a.2.all fun f => decide (f ∈ sn)) with
          | true =>
            rw [h3] at hall
            have h3' : ∀ f ∈ a.2, f ∈ sn := by simpa using h3
            by_cases h4 : a.2.Nodup
            · have r6 := fun cs => e_unlike_t h4 (by omega) cs
              simp [hall, r6]
              intro x y q
              rcases q with q | q
              · exact hd (x, y) q
              · subst q
                exact ⟨h1, h2, h3', h4⟩
            · have r6 := fun cs => (unlike_bad h4 (by omega) cs).1
              simp [hall, r6]
          | false =>
            rw [h3] at hall
            simp [hall]
        · have r4 : ∀ cs, F_is_row [.t (.tuple (a.2.map .str)), .t (.int 0), .t (.int (sn.length : Nat))] cs = .ok (.t (.bool false)) cs := fun cs => by simp; omega
          simp [-e_is_row, r2, r3, r4]
      · have r3 : ∀ cs, F_is_known [.t (.str a.1), .t (.list (ks.map .str))] cs = .ok (.t (.bool false)) cs := fun cs => by rw [e_known_l l1 hk, decide_eq_false h1]
        simp [-e_is_row, r2, r3]
    · rintro sl cs' ⟨rfl, hd, u4, u5, rfl⟩
      obtain ⟨a, ha, hb⟩ := hb
      exact absurd (hd a ha) hb
  · have r1 : ∀ cs, F_is_row [.t (.tuple (as.map eA)), .t (.int 1), .t (.int 12)] cs = .ok (.t (.bool false)) cs := fun cs => by simp; omega
    simp [-e_is_row, r1]
end Mi
set_option Elab.async false
set_option linter.all false
set_option autoImplicit false
set_option maxRecDepth 100000
set_option maxHeartbeats 1000000
namespace Mi
open PySem PySem.Spec PyProof.Rows L2
theorem sky_row {c : Cty} {t : T} (h : ∀ cs, F_is_row [.t t, .t (.int 2), .t (.int 2)] cs = .ok (.t (.bool false)) cs) : SkBad c t := by
  intro cs
  apply yp_run
  simp [-e_is_row, h]
theorem sky_states {c : Cty} {a b : T} (h : ∀ cs, F_is_row [.t b, .t (.int 1), .t (.int 30)] cs = .ok (.t (.bool false)) cs) : SkBad c (.tuple [a, b]) := by
  intro cs
  apply yp_run
  have r1 : ∀ cs, F_is_row [.t (.tuple [a, b]), .t (.int 2), .t (.int 2)] cs = .ok (.t (.bool true)) cs := fun cs => by simp
  have tg : ∀ t sl cs, tgTup 2 t (.t (.tuple [a, b])) sl cs = t [.t a, .t b] sl cs := fun t sl cs => rfl
  simp [-e_is_row, r1, tg, h]
def NmBad (s : Str) : Prop := ∀ cs, F_is_name [.t (.str s)] cs = .ok (.t (.bool false)) cs
theorem sky_nm {c : Cty} {k : Sky} (hn1 : 1 ≤ k.sts.length ∧ k.sts.length ≤ 30) (hn : ∀ x ∈ k.sts, NmOk x.1 ∨ NmBad x.1) (hb : ∃ x ∈ k.sts, NmBad x.1) : SkBad c (eK k) := by
  intro cs
  apply yp_run
  have r1 : ∀ cs, F_is_row [.t (eK k), .t (.int 2), .t (.int 2)] cs = .ok (.t (.bool true)) cs := fun cs => by simp [eK]
  have r2 : ∀ cs, F_is_row [.t (.tuple (k.sts.map eSt)), .t (.int 1), .t (.int 30)] cs = .ok (.t (.bool true)) cs := fun cs => by simp; omega
  simp [-e_is_row, r1, r2, tgK]
  refine seq_for k.sts eSt (fun d sl cs' => cs' = cs ∧ (∀ x ∈ d, NmOk x.1) ∧ ∃ u, sl = [some (.t (eC c)), some (.t (eK k)), u, none, none, some (.t (.str k.first)), some (.t (.tuple (k.sts.map eSt))), none, none, none]) (by simp) ⟨rfl, by simp, _, rfl⟩ ?_ ?_
  · rintro d x r sl cs' e ⟨rfl, hd, u, rfl⟩
    have r5 : ∀ cs, F_is_row [.t (.tuple [.str x.1, .tuple (x.2.map eA)]), .t (.int 2), .t (.int 2)] cs = .ok (.t (.bool true)) cs := fun cs => by simp
    rcases hn x (mid_mem e) with r6 | r6
    · have r6' := r6
      unfold NmOk at r6
      simp [-e_is_row, eSt, r5, r6]
      intro a b q
      rcases q with q | q
      · exact hd (a, b) q
      · subst q
        exact r6'
    · unfold NmBad at r6
      simp [-e_is_row, eSt, r5, r6]
  · rintro sl cs' ⟨rfl, hd, u, rfl⟩
    obtain ⟨x, hx, hb⟩ := hb
    have h1 := hd x hx []
    rw [hb []] at h1
    cases h1
theorem sky_late {c : Cty} {k : Sky} (hlk : ∀ y ∈ k.sts.map (·.1), Low y) (hns : c.ss.length ≤ 20) (hn1 : 1 ≤ k.sts.length ∧ k.sts.length ≤ 30) (hn : ∀ x ∈ k.sts, NmOk x.1) (hf : Low k.first)
    (h : ¬ (k.sts.map (·.1)).Nodup ∨ ¬ k.first ∈ k.sts.map (·.1) ∨ ∃ x r, k.sts = x :: r ∧ ∀ cs, ∃ fs, F_check_arcs [.t (.str x.1), .t (.tuple (x.2.map eA)), .t (.list ((k.sts.map (·.1)).map .str)), .t (.list ((c.ss.map (·.nm)).map .str))] cs = .ex ⟨1, fs⟩ cs) : SkBad c (eK k) := by
  intro cs
  apply yp_run
  have r1 : ∀ cs, F_is_row [.t (eK k), .t (.int 2), .t (.int 2)] cs = .ok (.t (.bool true)) cs := fun cs => by simp [eK]
  have r2 : ∀ cs, F_is_row [.t (.tuple (k.sts.map eSt)), .t (.int 1), .t (.int 30)] cs = .ok (.t (.bool true)) cs := fun cs => by simp; omega
  simp [-e_is_row, r1, r2, tgK]
  refine seq_for k.sts eSt (fun d sl cs' => cs' = cs ∧ ∃ u, sl = [some (.t (eC c)), some (.t (eK k)), u, none, none, some (.t (.str k.first)), some (.t (.tuple (k.sts.map eSt))), none, none, none]) (by simp) ⟨rfl, _, rfl⟩ ?_ ?_
  · rintro d x r sl cs' e ⟨rfl, u, rfl⟩
    have r5 : ∀ cs, F_is_row [.t (.tuple [.str x.1, .tuple (x.2.map eA)]), .t (.int 2), .t (.int 2)] cs = .ok (.t (.bool true)) cs := fun cs => by simp
    have r6 := hn x (mid_mem e)
    unfold NmOk at r6
    simp [-e_is_row, eSt, r5, r6]
  · rintro sl cs' ⟨rfl, u, rfl⟩
    simp only [x_seq_asg]
    rw [dComp_map k.sts eSt (fun x => .str x.1) (by simp) (by intro x _ d _ _; simp [eSt]) (sz_of (by omega))]
    rw [show k.sts.map (fun x => PyData.str x.1) = (k.sts.map (·.1)).map .str by rw [List.map_map]; rfl]
    by_cases h1 : (k.sts.map (·.1)).Nodup
    · have r4 := fun cs => e_unlike_l h1 (by simp; omega) cs
      by_cases h2 : k.first ∈ k.sts.map (·.1)
      · have r3 : ∀ cs, F_is_known [.t (.str k.first), .t (.list ((k.sts.map (·.1)).map .str))] cs = .ok (.t (.bool true)) cs := fun cs => by rw [e_known_l hf hlk, decide_eq_true h2]
        obtain ⟨x0, r0, e0, hb⟩ : ∃ x r, k.sts = x :: r ∧ ∀ cs, ∃ fs, F_check_arcs [.t (.str x.1), .t (.tuple (x.2.map eA)), .t (.list ((k.sts.map (·.1)).map .str)), .t (.list ((c.ss.map (·.nm)).map .str))] cs = .ex ⟨1, fs⟩ cs := by
          rcases h with q | q | q
          · exact absurd h1 q
          · exact absurd h2 q
          · exact q
        simp only [x_bindS_ok, x_tgName, List.set_cons_succ, List.set_cons_zero, x_seq_ifs, x_notB, x_test, x_call, x_cons, x_var, x_nil, List.getElem?_cons_succ, List.getElem?_cons_zero, x_bind_ok, r4, r3, x_res, Bool.not_true, Bool.false_eq_true, if_false, x_seq_skip, x_seq_asg]
        rw [dComp_map c.ss eS (fun s => .str s.nm) (by simp) (by intro x _ d _ _; simp) (sz_of (by omega))]
        rw [show c.ss.map (fun s => PyData.str s.nm) = (c.ss.map (·.nm)).map .str by rw [List.map_map]; rfl]
        simp only [x_bindS_ok, x_tgName, List.set_cons_succ, List.set_cons_zero]
        refine seq_for k.sts eSt (fun d sl cs'' => cs'' = cs' ∧ d = [] ∧ ∃ u7 u8, sl = [some (.t (eC c)), some (.t (eK k)), u, some (.t (.list ((k.sts.map (·.1)).map .str))), some (.t (.list ((c.ss.map (·.nm)).map .str))), some (.t (.str k.first)), some (.t (.tuple (k.sts.map eSt))), u7, u8, none]) (by simp) ⟨rfl, rfl, _, _, rfl⟩ ?_ ?_
        · rintro d x r sl cs'' e ⟨rfl, rfl, u7, u8, rfl⟩
          rw [e0] at e
          simp only [List.nil_append, List.cons.injEq] at e
          obtain ⟨rfl, _⟩ := e
          obtain ⟨fs, r7⟩ := hb cs''
          simp only [x_turn, tgSt, x_tgCons, x_tgNil, List.set_cons_succ, List.set_cons_zero, x_bindS_ok, x_seq_expr, x_call, x_cons, x_var, x_nil, List.getElem?_cons_succ, List.getElem?_cons_zero, x_bind_ok, r7]
          simp
        · rintro sl cs'' ⟨rfl, d0, u7, u8, rfl⟩
          rw [d0] at hn1
          simp at hn1
      · have r3 : ∀ cs, F_is_known [.t (.str k.first), .t (.list ((k.sts.map (·.1)).map .str))] cs = .ok (.t (.bool false)) cs := fun cs => by rw [e_known_l hf hlk, decide_eq_false h2]
        simp only [x_bindS_ok, x_tgName, List.set_cons_succ, List.set_cons_zero, x_seq_ifs, x_notB, x_test, x_call, x_cons, x_var, x_nil, List.getElem?_cons_succ, List.getElem?_cons_zero, x_bind_ok, r4, r3, x_res, Bool.not_true, Bool.false_eq_true, if_false, x_seq_skip, x_seq_asg]
        simp
    · have r4 := fun cs => (unlike_bad h1 (by simp; omega) cs).2
      simp only [x_bindS_ok, x_tgName, List.set_cons_succ, List.set_cons_zero, x_seq_ifs, x_notB, x_test, x_call, x_cons, x_var, x_nil, List.getElem?_cons_succ, List.getElem?_cons_zero, x_bind_ok, r4, x_res, Bool.not_true, Bool.false_eq_true, if_false, x_seq_skip, x_seq_asg]
      simp
end Mi
set_option Elab.async false
set_option linter.all false
set_option autoImplicit false
set_option maxRecDepth 100000
set_option maxHeartbeats 1000000
namespace Mi
open PySem PySem.Spec PyProof.Rows L2
/-! ### bent skies -/
def rep (n : Nat) (as : List Arc) : List Arc := (List.replicate n as).flatten
theorem mul_rep (n : Nat) (as : List Arc) (h : as ≠ []) (h1 : 2 ≤ n ∧ n ≤ 1000) (h2 : as.length ≤ 1000) : mulT (.tuple (as.map eA)) (.int (n : Nat)) = some (.tuple ((rep n as).map eA)) := by
  have h3 : ¬ (n : Int) = 1 := by omega
  have h4 : as.map eA ≠ [] ∧ (2 : Int) ≤ n ∧ (n : Int) ≤ 1000 ∧ (as.map eA).length ≤ 1000 := by
    refine ⟨by simpa using h, by omega, by omega, by simpa using h2⟩
  simp only [mulT]
  rw [if_neg h3, if_pos h4]
  simp [repT, rep, List.map_flatten]
theorem rep_len (n : Nat) (as : List Arc) : (rep n as).length = n * as.length := by
  simp [rep, List.length_flatten]
theorem rep_mem {n : Nat} {as : List Arc} {a : Arc} (h : a ∈ rep n as) : a ∈ as := by
  unfold rep at h
  rw [List.mem_flatten] at h
  obtain ⟨l, h1, h2⟩ := h
  rw [(List.mem_replicate.mp h1).2] at h2
  exact h2
def bks (k : Sky) (x0 : Str × List Arc) (a0 : Arc) (rest : List (Str × List Arc)) (st : Str) : List (T × Bool) := [(eK ⟨"zz", k.sts⟩, false), (.tuple [.str k.first, .tuple []], false), (eK ⟨k.first, (x0.1, []) :: rest⟩, false), (eK ⟨k.first, (x0.1, x0.2 ++ [(("zz" : Str), [])]) :: rest⟩, false), (eK ⟨k.first, (x0.1, x0.2 ++ [(x0.1, [st])]) :: rest⟩, true),
  (eK ⟨k.first, (x0.1, x0.2 ++ [(x0.1, [st, st])]) :: rest⟩, false), (eK ⟨k.first, (x0.1, x0.2 ++ [(x0.1, [("zz" : Str)])]) :: rest⟩, false), (eK ⟨k.first, k.sts ++ [x0]⟩, false), (.tuple [.str k.first, .list (k.sts.map eSt)], false), (.tuple [.str k.first], false), (.none, false),
  (eK ⟨k.first, (x0.1, rep 13 x0.2) :: rest⟩, false), (eK ⟨k.first, (x0.1, rep 12 [a0]) :: rest⟩, true), (eK ⟨k.first, k.sts ++ [(("K" : Str), x0.2)]⟩, false), (eK ⟨k.first, k.sts ++ [(("q9" : Str), x0.2)]⟩, true)]
def BskOk (c : Cty) (p : T × Bool) : Prop := (p.2 = true ∧ SkOk c p.1) ∨ (p.2 = false ∧ SkBad c p.1)
theorem nm_q9 : NmOk "q9" := nm_ok _ 2 (by decide +kernel) (by decide) 113 (by decide +kernel) (by decide +kernel) (by decide +kernel)
theorem nb_K : NmBad "K" := nm_bad _ 75 (by decide +kernel) (by decide +kernel) (fun _ => by decide +kernel)
theorem low_q9 : Low "q9" := by unfold Low; decide +kernel
theorem ks_q9 {ks : List Str} (h : KsD ks) : (ks ++ [("q9" : Str)]).Nodup := by
  rcases h.is with rfl | rfl | rfl <;> decide +kernel
theorem bks_ok {c : Cty} {k : Sky} {x0 : Str × List Arc} {a0 : Arc} {rest : List (Str × List Arc)} {s0 : Stt} (hd : CityD c) (hk : SkyD c k) (hK : k.sts = x0 :: rest) (ha0 : a0 ∈ x0.2) (hs0 : s0 ∈ c.ss) : ∀ p ∈ bks k x0 a0 rest s0.nm, BskOk c p := by
  have ho := hk.ok
  have hkl := hk.ks.len
  have hs1 := hd.s1
  have hx0 : x0 ∈ k.sts := by rw [hK]; simp
  have hn12 := hk.n12 x0 hx0
  have hl : k.sts.length ≤ 3 := by simpa using hkl.2
  have hl1 : 1 ≤ k.sts.length := by simpa using hkl.1
  have hlr : rest.length + 1 = k.sts.length := by rw [hK]; simp
  have hsn : ∀ y ∈ c.ss.map (·.nm), Low y := fun y hy => by obtain ⟨s, hs, rfl⟩ := List.mem_map.mp hy; exact (hd.cok.ss s hs).1
  have hkn : ∀ y ∈ k.sts.map (·.1), Low y := hk.ks.low
  have hst : s0.nm ∈ c.ss.map (·.nm) := List.mem_map.mpr ⟨s0, hs0, rfl⟩
  have hzs : ¬ ("zz" : Str) ∈ c.ss.map (·.nm) := by
    obtain ⟨a, b, ha, hb, na, nb⟩ := hd.ab
    rw [na]
    exact a12 (P := fun a => ¬ ("zz" : Str) ∈ (List.range a).map sN) ha (by decide +kernel) (by decide +kernel)
  have hf : Low k.first := hkn _ ho.fst
  have hlen : (c.ss.map (·.nm)).length = c.ss.length := by simp
  have hrm : ∀ x ∈ rest, x ∈ k.sts := fun x hx => by rw [hK]; exact List.mem_cons_of_mem _ hx
  have hnm : ∀ as : List Arc, ((x0.1, as) :: rest).map (·.1) = k.sts.map (·.1) := fun as => by rw [hK]; simp
  have harc0 : ∀ a ∈ x0.2, Low a.1 ∧ (∀ f ∈ a.2, Low f) ∧ a.2.length ≤ 20 := fun a ha => by
    obtain ⟨q1, q2, q3, q4⟩ := ho.arc x0 hx0 a ha
    exact ⟨hkn _ q1, fun f hf => hsn f (q3 f hf), by omega⟩
  have hx01 : x0.1 ∈ k.sts.map (·.1) := List.mem_map.mpr ⟨x0, hx0, rfl⟩
  have hnmok : ∀ (as : List Arc), ∀ x ∈ (x0.1, as) :: rest, NmOk x.1 := fun as x hx => by
    rw [List.mem_cons] at hx
    rcases hx with rfl | hx
    · exact ho.nm x0 hx0
    · exact ho.nm x (hrm x hx)
  have bad : ∀ as : List Arc, (∀ a ∈ as, Low a.1 ∧ (∀ f ∈ a.2, Low f) ∧ a.2.length ≤ 20) → (¬ (1 ≤ as.length ∧ as.length ≤ 12) ∨ ∃ a ∈ as, ¬ ArGood (k.sts.map (·.1)) (c.ss.map (·.nm)) a) → SkBad c (eK ⟨k.first, (x0.1, as) :: rest⟩) := fun as h1 h2 => by
    refine sky_late (k := ⟨k.first, (x0.1, as) :: rest⟩) (by simp only [hnm]; exact hkn) (by omega) (by simp only [List.length_cons]; omega) (hnmok as) hf (.inr (.inr ⟨(x0.1, as), rest, rfl, fun cs => ?_⟩))
    simp only [hnm]
    exact arcs_bad hkn hsn (by omega) h1 h2 cs
  have more : ∀ b : Arc, (Low b.1 ∧ (∀ f ∈ b.2, Low f) ∧ b.2.length ≤ 20) → ∀ a ∈ x0.2 ++ [b], Low a.1 ∧ (∀ f ∈ a.2, Low f) ∧ a.2.length ≤ 20 := fun b hb a ha => by
    rw [List.mem_append, List.mem_singleton] at ha
    rcases ha with ha | rfl
    · exact harc0 a ha
    · exact hb
  have good : ∀ as : List Arc, (1 ≤ as.length ∧ as.length ≤ 12) → (∀ a ∈ as, ArGood (k.sts.map (·.1)) (c.ss.map (·.nm)) a) → SkOk c (eK ⟨k.first, (x0.1, as) :: rest⟩) := fun as h1 h2 => by
    refine e_check_sky (k := ⟨k.first, (x0.1, as) :: rest⟩) ⟨?_, ho.low2, by simp only [List.length_cons]; omega, hnmok as, by simp only [hnm]; exact ho.un, by simp only [hnm]; exact ho.fst, ?_, ?_, ho.ns⟩
    · intro x hx
      exact hkn _ (by rw [← hnm as]; exact List.mem_map.mpr ⟨x, hx, rfl⟩)
    · intro x hx
      simp only [List.mem_cons] at hx
      rcases hx with rfl | hx
      · exact h1
      · exact ho.n2 x (hrm x hx)
    · intro x hx a ha
      simp only [hnm]
      simp only [List.mem_cons] at hx
      rcases hx with rfl | hx
      · obtain ⟨q1, q2, q3, q4⟩ := h2 a ha
        exact ⟨q1, by omega, q3, q4⟩
      · exact ho.arc x (hrm x hx) a ha
  have gd0 : ∀ a ∈ x0.2, ArGood (k.sts.map (·.1)) (c.ss.map (·.nm)) a := fun a ha => by
    obtain ⟨q1, q2, q3, q4⟩ := ho.arc x0 hx0 a ha
    exact ⟨q1, by omega, q3, q4⟩
  have l1 : Low x0.1 := hkn _ hx01
  have l2 : Low s0.nm := hsn _ hst
  intro p hp
  simp only [bks, List.mem_cons, List.not_mem_nil, or_false] at hp
  rcases hp with rfl | rfl | rfl | rfl | rfl | rfl | rfl | rfl | rfl | rfl | rfl | rfl | rfl | rfl | rfl
  · exact .inr ⟨rfl, sky_late (k := ⟨"zz", k.sts⟩) hkn (by omega) (by simp only; omega) ho.nm low_zz (.inr (.inl hk.zz))⟩
  · exact .inr ⟨rfl, sky_states (fun cs => by simp)⟩
  · exact .inr ⟨rfl, bad [] (by simp) (.inl (by simp))⟩
  · exact .inr ⟨rfl, bad _ (more _ ⟨low_zz, by simp, by simp⟩) (.inr ⟨(("zz" : Str), []), by simp, fun q => hk.zz q.1⟩)⟩
  · refine .inl ⟨rfl, good _ (by simp; omega) fun a ha => ?_⟩
    rw [List.mem_append, List.mem_singleton] at ha
    rcases ha with ha | rfl
    · exact gd0 a ha
    · exact ⟨hx01, by simp only [List.length_cons, List.length_nil]; omega, by simpa using hst, by simp⟩
  · exact .inr ⟨rfl, bad _ (more _ ⟨l1, by simp [l2], by simp⟩) (.inr ⟨(x0.1, [s0.nm, s0.nm]), by simp, fun q => by have := q.2.2.2; simp at this⟩)⟩
  · exact .inr ⟨rfl, bad _ (more _ ⟨l1, by simp [low_zz], by simp⟩) (.inr ⟨(x0.1, [("zz" : Str)]), by simp, fun q => hzs (q.2.2.1 _ (by simp))⟩)⟩
  · refine .inr ⟨rfl, sky_late (k := ⟨k.first, k.sts ++ [x0]⟩) ?_ (by omega) (by simp; omega) ?_ hf (.inl ?_)⟩
    · intro y hy
      simp only [List.map_append, List.map_cons, List.map_nil, List.mem_append, List.mem_singleton] at hy
      rcases hy with hy | rfl
      · exact hkn y hy
      · exact l1
    · intro x hx
      simp only [List.mem_append, List.mem_singleton] at hx
      rcases hx with hx | rfl
      · exact ho.nm x hx
      · exact ho.nm _ hx0
    · simp only [List.map_append, List.map_cons, List.map_nil]
      exact dup_end hx01
  · exact .inr ⟨rfl, sky_states (fun cs => by simp)⟩
  · exact .inr ⟨rfl, sky_row (fun cs => by simp)⟩
  · exact .inr ⟨rfl, sky_row (fun cs => by simp)⟩
  · exact .inr ⟨rfl, bad _ (fun a ha => harc0 a (rep_mem ha)) (.inl (by rw [rep_len]; omega))⟩
  · refine .inl ⟨rfl, good _ (by rw [rep_len]; simp) fun a ha => ?_⟩
    have := rep_mem ha
    rw [List.mem_singleton] at this
    subst this
    exact gd0 _ ha0
  · refine .inr ⟨rfl, sky_nm (k := ⟨k.first, k.sts ++ [(("K" : Str), x0.2)]⟩) (by simp; omega) ?_ ⟨(("K" : Str), x0.2), by simp, nb_K⟩⟩
    intro x hx
    simp only [List.mem_append, List.mem_singleton] at hx
    rcases hx with hx | rfl
    · exact .inl (ho.nm x hx)
    · exact .inr nb_K
  · refine .inl ⟨rfl, e_check_sky (k := ⟨k.first, k.sts ++ [(("q9" : Str), x0.2)]⟩) ⟨?_, ho.low2, by simp; omega, ?_, ?_, ?_, ?_, ?_, ho.ns⟩⟩
    · intro x hx
      simp only [List.mem_append, List.mem_singleton] at hx
      rcases hx with hx | rfl
      · exact ho.low1 x hx
      · exact low_q9
    · intro x hx
      simp only [List.mem_append, List.mem_singleton] at hx
      rcases hx with hx | rfl
      · exact ho.nm x hx
      · exact nm_q9
    · simp only [List.map_append, List.map_cons, List.map_nil]
      exact ks_q9 hk.ks
    · simp only [List.map_append, List.map_cons, List.map_nil]
      exact List.mem_append_left _ ho.fst
    · intro x hx
      simp only [List.mem_append, List.mem_singleton] at hx
      rcases hx with hx | rfl
      · exact ho.n2 x hx
      · exact ho.n2 x0 hx0
    · intro x hx a ha
      simp only [List.map_append, List.map_cons, List.map_nil]
      simp only [List.mem_append, List.mem_singleton] at hx
      rcases hx with hx | rfl
      · obtain ⟨q1, q⟩ := ho.arc x hx a ha
        exact ⟨List.mem_append_left _ q1, q⟩
      · obtain ⟨q1, q⟩ := ho.arc x0 hx0 a ha
        exact ⟨List.mem_append_left _ q1, q⟩
end Mi
set_option Elab.async false
set_option linter.all false
set_option autoImplicit false
set_option maxRecDepth 100000
set_option maxHeartbeats 1000000
namespace Mi
open PySem PySem.Spec PyProof.Rows L2
theorem bent_sky {c : Cty} {k : Sky} (hd : CityD c) (hk : SkyD c k) (ns : List Int) (n : Nat) (hn : n ≤ 50000) : ∃ p, BskOk c p ∧ ∀ r, F__law_bent_sky [.c 0, .t (eC c), .t (eK k)] (DrC ns n :: r) = .ok (.t (eB p)) (DrC ns (n + 1) :: r) := by
  have hs1 := hd.s1
  have hkl := hk.ks.len
  have hl : k.sts.length ≤ 3 := by simpa using hkl.2
  have hl1 : 1 ≤ k.sts.length := by simpa using hkl.1
  obtain ⟨s0, srest, hS⟩ : ∃ s r, c.ss = s :: r := by
    cases e : c.ss with
    | nil => rw [e] at hs1; simp at hs1
    | cons s r => exact ⟨s, r, rfl⟩
  obtain ⟨⟨nm, as⟩, rest, hK⟩ : ∃ s r, k.sts = s :: r := by
    cases e : k.sts with
    | nil => rw [e] at hl1; simp at hl1
    | cons s r => exact ⟨s, r, rfl⟩
  have hx0 : (nm, as) ∈ k.sts := by rw [hK]; simp
  have hn12 := hk.n12 _ hx0
  simp only at hn12
  obtain ⟨a0, arest, hA⟩ : ∃ s r, as = s :: r := by
    cases e : as with
    | nil => rw [e] at hn12; simp at hn12
    | cons s r => exact ⟨s, r, rfl⟩
  have lS : srest.length ≤ 1 := by rw [hS] at hs1; simp at hs1; omega
  have lK : rest.length ≤ 2 := by rw [hK] at hl; simp at hl; omega
  have lA : arest.length ≤ 1 := by rw [hA] at hn12; simp at hn12; omega
  obtain ⟨p, hp, ep⟩ := pickL_to ns n (n + 1) (bks k (nm, as) a0 rest s0.nm) eB rfl (by omega) (by simp [bks])
  refine ⟨p, bks_ok hd hk hK (by rw [hA]; simp) (by rw [hS]; simp) p hp, fun r => ?_⟩
  have eKs : (PyData.tuple (k.sts.map eSt)) = .tuple (eSt (nm, as) :: rest.map eSt) := by rw [hK]; rfl
  have eAs : (PyData.tuple (as.map eA)) = .tuple (eA a0 :: arest.map eA) := by rw [hA]; rfl
  have eSs : cS c = .tuple (eS s0 :: srest.map eS) := by unfold cS; rw [hS]; rfl
  obtain ⟨iS, _, _⟩ := tup_hd (eS s0) (srest.map eS) (by simp; omega)
  obtain ⟨iK, sK0, sK1⟩ := tup_hd (eSt (nm, as)) (rest.map eSt) (by simp; omega)
  obtain ⟨_, sA0, _⟩ := tup_hd (eA a0) (arest.map eA) (by simp; omega)
  rw [← eSs] at iS
  rw [← eKs] at iK sK0 sK1
  rw [← eAs] at sA0
  have iC : idxT (eC c) (.int 1) = some (cS c) := rfl
  have aK : ∀ as', addT (.tuple [.tuple [.str nm, .tuple (List.map eA as')]]) (.tuple (rest.map eSt)) = some (.tuple (((nm, as') :: rest).map eSt)) := fun as' => add_tup (by simp; omega)
  have aK0 : addT (.tuple [.tuple [.str nm, .tuple []]]) (.tuple (rest.map eSt)) = some (.tuple (((nm, []) :: rest).map eSt)) := aK []
  have aA : ∀ b, addT (.tuple (as.map eA)) (.tuple [eA b]) = some (.tuple ((as ++ [b]).map eA)) := fun b => by rw [List.map_append]; exact add_tup (by simp; omega)
  have aA1 : addT (.tuple (as.map eA)) (.tuple [.tuple [.str "zz", .tuple []]]) = some (.tuple ((as ++ [(("zz" : Str), [])]).map eA)) := aA (("zz" : Str), [])
  have aA2 : addT (.tuple (as.map eA)) (.tuple [.tuple [.str nm, .tuple [.str s0.nm]]]) = some (.tuple ((as ++ [(nm, [s0.nm])]).map eA)) := aA (nm, [s0.nm])
  have aA3 : addT (.tuple (as.map eA)) (.tuple [.tuple [.str nm, .tuple [.str s0.nm, .str s0.nm]]]) = some (.tuple ((as ++ [(nm, [s0.nm, s0.nm])]).map eA)) := aA (nm, [s0.nm, s0.nm])
  have aA4 : addT (.tuple (as.map eA)) (.tuple [.tuple [.str nm, .tuple [.str "zz"]]]) = some (.tuple ((as ++ [(nm, [("zz" : Str)])]).map eA)) := aA (nm, [("zz" : Str)])
  have aS : ∀ b, addT (.tuple (k.sts.map eSt)) (.tuple [eSt b]) = some (.tuple ((k.sts ++ [b]).map eSt)) := fun b => by rw [List.map_append]; exact add_tup (by simp; omega)
  have aS1 : addT (.tuple (k.sts.map eSt)) (.tuple [.tuple [.str "K", .tuple (as.map eA)]]) = some (.tuple ((k.sts ++ [(("K" : Str), as)]).map eSt)) := aS (("K" : Str), as)
  have aS2 : addT (.tuple (k.sts.map eSt)) (.tuple [.tuple [.str "q9", .tuple (as.map eA)]]) = some (.tuple ((k.sts ++ [(("q9" : Str), as)]).map eSt)) := aS (("q9" : Str), as)
  have m13 : mulT (.tuple (as.map eA)) (.int 13) = some (.tuple ((rep 13 as).map eA)) := mul_rep 13 as (by rw [hA]; simp) (by omega) (by omega)
  have m12 : mulT (.tuple [eA a0]) (.int 12) = some (.tuple ((rep 12 [a0]).map eA)) := mul_rep 12 [a0] (by simp) (by omega) (by simp)
  have lsS : listT (.tuple (k.sts.map eSt)) = some (.list (k.sts.map eSt)) := rfl
  have tg2 : ∀ t sl cs, tgTup 2 t (.t (eSt (nm, as))) sl cs = t [.t (.str nm), .t (.tuple (as.map eA))] sl cs := fun t sl cs => rfl
  generalize hKS : PyData.tuple (k.sts.map eSt) = KS at *
  generalize hAS : PyData.tuple (as.map eA) = AS at *
  apply run_go
  have tgk : ∀ t sl cs, tgTup 2 t (.t (eK k)) sl cs = t [.t (.str k.first), .t KS] sl cs := fun t sl cs => by rw [← hKS]; rfl
  simp [-List.map_append, -List.map_cons, tgk, tg2, iK, iC, iS, sK0, sK1, sA0, aK, aK0, aA1, aA2, aA3, aA4, aS, aS1, aS2, m13, m12, lsS]
  subst hKS
  subst hAS
  show Fin_ _ _ ((F__law_pick [.c 0, .t (.list ((bks k (nm, as) a0 rest s0.nm).map eB))] (DrC ns n :: r)).bindS _ _)
  rw [ep]
  simp
end Mi
set_option Elab.async false
set_option linter.all false
set_option autoImplicit false
set_option maxRecDepth 100000
set_option maxHeartbeats 1000000
namespace Mi
open PySem PySem.Spec PyProof.Rows L2
def LP (o : RS) : Prop := ∃ cs', o = .rt (.t (.bool true)) cs'
theorem nbt : neO (.bool true) (.bool true) = some (.bool false) := rfl
theorem nbf : neO (.bool false) (.bool false) = some (.bool false) := rfl
theorem eb2 (p : T × Bool) (t : DGs) (sl : Sl) (cs : Cs) : tgTup 2 t (.t (eB p)) sl cs = t [.t p.1, .t (.bool p.2)] sl cs := rfl
theorem law_turn {c : Cty} {k : Sky} {ns : List Int} {n i : Nat} {u4 u6 u7 : Option SV} {I : Sl → Cs → Prop} {P : RS → Prop} (hc : CityD c) (hn : n ≤ 5000)
    (hI : ∀ u6 u7, I [none, some (.c 0), some (.t (eC c)), some (.t (eK k)), some (.t (.int (i : Nat))), none, u6, u7] [DrC ns (n + 2)]) :
    Go I P (Turn (tgName 4) (dSeq (dAsg (dCall F__law_bent_city (dCons (dVar 1) (dCons (dVar 2) (dNil)))) (tgTup 2 (tgCons 7 (tgCons 6 (tgNil))))) (dSeq (dIfS (dOrB (dTest (dBin (op2 neO) (dCall F_is_city (dCons (dVar 7) (dNil))) (dVar 6))) (dTest (dBin (op2 neO) (dRaised 2 "city" "sky" "none" (dCall F_check_city (dCons (dVar 7) (dNil)))) (dIf (dTest (dVar 6)) (dC (.str "none")) (dC (.str "city")))))) (dSeq (dRet (dC (.bool false))) (dSkip)) (dSkip)) (dSkip)))
      (.int (i : Nat)) [none, some (.c 0), some (.t (eC c)), some (.t (eK k)), u4, none, u6, u7] [DrC ns n]) := by
  obtain ⟨⟨x, b⟩, hp, ep⟩ := bent_city hc ns n (by omega)
  have e1 := ep []
  rcases hp with ⟨h1, h2⟩ | ⟨h1, h2⟩
  · simp only at h1 h2
    subst h1
    have e2 := fun cs => is_city_ok h2 cs
    have e3 := fun cs => h2 cs
    simp [e1, eb2, e2, e3, dRaised, nbt, nbf]
    exact hI _ _
  · simp only at h1 h2
    subst h1
    have e2 := fun cs => is_city_bad h2 cs
    obtain ⟨fs, e3⟩ := h2 [DrC ns (n + 2)]
    simp [e1, eb2, e2, e3, dRaised, nbt, nbf]
    exact hI _ _
end Mi
set_option Elab.async false
set_option linter.all false
set_option autoImplicit false
set_option maxRecDepth 100000
set_option maxHeartbeats 1000000
namespace Mi
open PySem PySem.Spec PyProof.Rows L2
theorem pure_law (ns : List Int) (h : ns.length ≤ 63) : ∃ cs', B_law (lawS 6) (lawC ns) = .rt (.t (.bool true)) cs' := by
  show LP (B_law (lawS 6) (lawC ns))
  obtain ⟨c, n1, hc, hn1, e1⟩ := city_spec ns 0 (by omega)
  obtain ⟨k, n2, hk, hn2, e2⟩ := sky_spec ns n1 c hc (by omega)
  have e3 := fun cs => is_city_ok (t := eC c) (fun cs => e_check_city hc.ok cs) cs
  have e4 := fun cs => is_sky_ok (c := c) (t := eK k) (fun cs => e_check_sky hk.ok cs) cs
  have hC : lawC ns = [DrC ns 0] := rfl
  have hS : lawS 6 = [none, some (.c 0), none, none, none, none, none, none] := rfl
  rw [hC, hS]
  unfold B_law
  rw [x_seq_asg]
  rw [show dCall F__law_city (dCons (dVar 1) (dCons (dC (.int 3)) (dNil))) [none, some (.c 0), none, none, none, none, none, none] [DrC ns 0] = .ok (.t (eC c)) [DrC ns n1] by simp [e1]]
  rw [x_bindS_ok, x_tgName, x_bindS_ok, x_seq_asg]
  rw [show dCall F__law_sky (dCons (dVar 1) (dCons (dVar 2) (dNil))) (([none, some (.c 0), none, none, none, none, none, none] : Sl).set 2 (some (.t (eC c)))) [DrC ns n1] = .ok (.t (eK k)) [DrC ns n2] by simp [e2]]
  rw [x_bindS_ok, x_tgName, x_bindS_ok, x_seq_ifs]
  rw [show ((([none, some (.c 0), none, none, none, none, none, none] : Sl).set 2 (some (.t (eC c)))).set 3 (some (.t (eK k)))) = [none, some (.c 0), some (.t (eC c)), some (.t (eK k)), none, none, none, none] from rfl]
  rw [show dOrB (dNotB (dTest (dCall F_is_city (dCons (dVar 2) (dNil))))) (dNotB (dTest (dCall F_is_sky (dCons (dVar 2) (dCons (dVar 3) (dNil)))))) [none, some (.c 0), some (.t (eC c)), some (.t (eK k)), none, none, none, none] [DrC ns n2] = .ok false [DrC ns n2] by simp [e3, e4]]
  rw [x_bindS_ok, if_neg (by simp), x_seq_skip]
  refine seq_for (cs1 := [DrC ns n2]) (List.range 8) (fun i => .int (i : Nat)) (fun d sl cs' => ∃ n u4 u6 u7, n ≤ 1000 + 2 * d.length ∧ cs' = [DrC ns n] ∧ sl = [none, some (.c 0), some (.t (eC c)), some (.t (eK k)), u4, none, u6, u7])
    (rng1_to (n := 8) rfl (by omega)) ⟨n2, none, none, none, by omega, rfl, rfl⟩ ?_ ?_
  · rintro d i r sl cs' eq ⟨n, u4, u6, u7, hn, rfl, rfl⟩
    have hdl := congrArg List.length eq
    simp at hdl
    refine law_turn hc (by omega) ?_
    intro w6 w7
    exact ⟨n + 2, _, _, _, by simp; omega, rfl, rfl⟩
  · rintro sl cs' ⟨n, u4, u6, u7, hn, rfl, rfl⟩
    simp at hn
    obtain ⟨⟨x, b⟩, hp, ep⟩ := bent_sky hc hk ns n (by omega)
    have e5 := ep []
    have ebt : eqO (.bool true) (.bool true) = some (.bool true) := rfl
    have ebf : eqO (.bool false) (.bool false) = some (.bool true) := rfl
    rcases hp with ⟨h1, h2⟩ | ⟨h1, h2⟩
    · simp only at h1 h2
      subst h1
      have e6 := fun cs => is_sky_ok h2 cs
      have e7 := fun cs => h2 cs
      refine ⟨[DrC ns (n + 1)], ?_⟩
      simp [e5, eb2, e6, e7, dRaised, ebt, ebf]
    · simp only at h1 h2
      subst h1
      have e6 := fun cs => is_sky_bad h2 cs
      obtain ⟨fs, e7⟩ := h2 [DrC ns (n + 1)]
      refine ⟨[DrC ns (n + 1)], ?_⟩
      simp [e5, eb2, e6, e7, dRaised, ebt, ebf]
end Mi
set_option Elab.async false
open PySem PySem.W PyProof.Rows
set_option maxRecDepth 100000 in
set_option maxHeartbeats 0 in
theorem PySem.Challenge.cw_snowsure_k09_refused_cities_holds : PySem.Challenge.rw_snowsure_k09_refused_cities.Holds := by
  w_on; o_law; k_head; (case hw => w_witness2)
  k_fill
  refine Mi.walkMT (l := PySem.Challenge.rw_snowsure_k09_refused_cities) (k := 8) (n := 6) (body := Mi.B_law) rfl rfl rfl ⟨rfl, by decide, by decide⟩ (by decide +kernel) (fun w h Y => PySem.W.km_in_of Y) ?F Mi.pure_law
  case F =>
    intro w mg h KX G
    refine' Mi.all_mk KX G ?yy_z_all ?yy_z_bool ?yy_z_int ?yy_z_isinstance ?yy_z_len ?yy_z_list ?yy_z_range ?yy_z_set ?yy_z_str ?yy_z_tuple ?yy_v_GREATEST_LATE ?yy_v_GREATEST_LIMIT ?yy_v_LETTERS ?yy_v_LETTERS_AND_FIGURES ?yy_v_LONGEST_DAY ?yy_v_LONGEST_NAME ?yy_v_LONGEST_PASS ?yy_v_LONGEST_WORK ?yy_v_MOST_ARCS ?yy_v_MOST_JUNCTIONS ?yy_v_MOST_PLOUGHS ?yy_v_MOST_SPANS ?yy_v_MOST_STATES ?yy_v_MOST_STREETS ?yy_a_is_integer ?yy_l_is_integer ?yy_c_is_integer ?yy_k_is_integer ?yy_a_is_row ?yy_l_is_row ?yy_c_is_row ?yy_k_is_row ?yy_a_is_name ?yy_l_is_name ?yy_c_is_name ?yy_k_is_name ?yy_a_is_known ?yy_l_is_known ?yy_c_is_known ?yy_k_is_known ?yy_a_are_unlike ?yy_l_are_unlike ?yy_c_are_unlike ?yy_k_are_unlike ?yy_a__law_cell_at ?yy_l__law_cell_at ?yy_c__law_cell_at ?yy_k__law_cell_at ?yy_a__law_draw ?yy_l__law_draw ?yy_c__law_draw ?yy_k__law_draw ?yy_a__law_put ?yy_l__law_put ?yy_c__law_put ?yy_k__law_put ?yy_a_is_within ?yy_l_is_within ?yy_c_is_within ?yy_k_is_within ?yy_a__law_number ?yy_l__law_number ?yy_c__law_number ?yy_k__law_number ?yy_a_check_junctions ?yy_l_check_junctions ?yy_c_check_junctions ?yy_k_check_junctions ?yy_a_check_ploughs ?yy_l_check_ploughs ?yy_c_check_ploughs ?yy_k_check_ploughs ?yy_a_check_rules ?yy_l_check_rules ?yy_c_check_rules ?yy_k_check_rules ?yy_a_check_hours ?yy_l_check_hours ?yy_c_check_hours ?yy_k_check_hours ?yy_a_check_arcs ?yy_l_check_arcs ?yy_c_check_arcs ?yy_k_check_arcs ?yy_a__law_next ?yy_l__law_next ?yy_c__law_next ?yy_k__law_next ?yy_a_check_street ?yy_l_check_street ?yy_c_check_street ?yy_k_check_street ?yy_a_check_sky ?yy_l_check_sky ?yy_c_check_sky ?yy_k_check_sky ?yy_a__law_pick ?yy_l__law_pick ?yy_c__law_pick ?yy_k__law_pick ?yy_a_check_city ?yy_l_check_city ?yy_c_check_city ?yy_k_check_city ?yy_a_is_sky ?yy_l_is_sky ?yy_c_is_sky ?yy_k_is_sky ?yy_a__law_hours ?yy_l__law_hours ?yy_c__law_hours ?yy_k__law_hours ?yy_a__law_sky ?yy_l__law_sky ?yy_c__law_sky ?yy_k__law_sky ?yy_a__law_bent_street ?yy_l__law_bent_street ?yy_c__law_bent_street ?yy_k__law_bent_street ?yy_a__law_bent_sky ?yy_l__law_bent_sky ?yy_c__law_bent_sky ?yy_k__law_bent_sky ?yy_a_is_city ?yy_l_is_city ?yy_c_is_city ?yy_k_is_city ?yy_a__law_city ?yy_l__law_city ?yy_c__law_city ?yy_k__law_city ?yy_a__law_bent_city ?yy_l__law_bent_city ?yy_c__law_bent_city ?yy_k__law_bent_city ?yy_a_law ?yy_l_law ?yy_c_law ?yy_k_law ?yy_g0 ?yy_e0_0 ?yy_e0_1 ?yy_e0_2 ?yy_e0_3 ?yy_e0_4 ?yy_e0_5 ?yy_e0_6 ?yy_e0_7 ?yy_e0_8 ?yy_i0 ?yy_t0 ?yy_lX0 ?yy_cX0 ?yy_kX0 ?yy_n0_0 ?yy_n0_1 ?yy_x0_0 ?yy_x0_1 ?yy_g1 ?yy_e1_0 ?yy_e1_1 ?yy_e1_2 ?yy_e1_3 ?yy_e1_4 ?yy_e1_5 ?yy_e1_6 ?yy_e1_7 ?yy_e1_8 ?yy_i1 ?yy_t1 ?yy_lX1 ?yy_cX1 ?yy_kX1 ?yy_n1_0 ?yy_n1_1 ?yy_x1_0 ?yy_x1_1 ?yy_a__law_raised ?yy_l__law_raised ?yy_c__law_raised ?yy_k__law_raised ?yy_zq ?yy_lq ?yy_vp ?yy_np ?yy_hp
    (case yy_g0 => k_is)
    (case yy_g1 => k_is)
    (case yy_z_all => k_is)
    (case yy_z_bool => k_is)
    (case yy_z_int => k_is)
    (case yy_z_isinstance => k_is)
    (case yy_z_len => k_is)
    (case yy_z_list => k_is)
    (case yy_z_range => k_is)
    (case yy_z_set => k_is)
    (case yy_z_str => k_is)
    (case yy_z_tuple => k_is)
    (case yy_v_GREATEST_LATE => k_is)
    (case yy_v_GREATEST_LIMIT => k_is)
    (case yy_v_LETTERS => k_is)
    (case yy_v_LETTERS_AND_FIGURES => k_is)
    (case yy_v_LONGEST_DAY => k_is)
    (case yy_v_LONGEST_NAME => k_is)
    (case yy_v_LONGEST_PASS => k_is)
    (case yy_v_LONGEST_WORK => k_is)
    (case yy_v_MOST_ARCS => k_is)
    (case yy_v_MOST_JUNCTIONS => k_is)
    (case yy_v_MOST_PLOUGHS => k_is)
    (case yy_v_MOST_SPANS => k_is)
    (case yy_v_MOST_STATES => k_is)
    (case yy_v_MOST_STREETS => k_is)
    (case yy_a_is_integer => k_is)
    (case yy_l_is_integer => k_is)
    (case yy_c_is_integer => k_is)
    (case yy_k_is_integer => k_is)
    (case yy_a_is_row => k_is)
    (case yy_l_is_row => k_is)
    (case yy_c_is_row => k_is)
    (case yy_k_is_row => k_is)
    (case yy_a_is_name => k_is)
    (case yy_l_is_name => k_is)
    (case yy_c_is_name => k_is)
    (case yy_k_is_name => k_is)
    (case yy_a_is_known => k_is)
    (case yy_l_is_known => k_is)
    (case yy_c_is_known => k_is)
    (case yy_k_is_known => k_is)
    (case yy_a_are_unlike => k_is)
    (case yy_l_are_unlike => k_is)
    (case yy_c_are_unlike => k_is)
    (case yy_k_are_unlike => k_is)
    (case yy_a__law_cell_at => k_is)
    (case yy_l__law_cell_at => k_is)
    (case yy_c__law_cell_at => k_is)
    (case yy_k__law_cell_at => k_is)
    (case yy_a__law_draw => k_is)
    (case yy_l__law_draw => k_is)
    (case yy_c__law_draw => k_is)
    (case yy_k__law_draw => k_is)
    (case yy_a__law_put => k_is)
    (case yy_l__law_put => k_is)
    (case yy_c__law_put => k_is)
    (case yy_k__law_put => k_is)
    (case yy_a_is_within => k_is)
    (case yy_l_is_within => k_is)
    (case yy_c_is_within => k_is)
    (case yy_k_is_within => k_is)
    (case yy_a__law_number => k_is)
    (case yy_l__law_number => k_is)
    (case yy_c__law_number => k_is)
    (case yy_k__law_number => k_is)
    (case yy_a_check_junctions => k_is)
    (case yy_l_check_junctions => k_is)
    (case yy_c_check_junctions => k_is)
    (case yy_k_check_junctions => k_is)
    (case yy_a_check_ploughs => k_is)
    (case yy_l_check_ploughs => k_is)
    (case yy_c_check_ploughs => k_is)
    (case yy_k_check_ploughs => k_is)
    (case yy_a_check_rules => k_is)
    (case yy_l_check_rules => k_is)
    (case yy_c_check_rules => k_is)
    (case yy_k_check_rules => k_is)
    (case yy_a_check_hours => k_is)
    (case yy_l_check_hours => k_is)
    (case yy_c_check_hours => k_is)
    (case yy_k_check_hours => k_is)
    (case yy_a_check_arcs => k_is)
    (case yy_l_check_arcs => k_is)
    (case yy_c_check_arcs => k_is)
    (case yy_k_check_arcs => k_is)
    (case yy_a__law_next => k_is)
    (case yy_l__law_next => k_is)
    (case yy_c__law_next => k_is)
    (case yy_k__law_next => k_is)
    (case yy_a_check_street => k_is)
    (case yy_l_check_street => k_is)
    (case yy_c_check_street => k_is)
    (case yy_k_check_street => k_is)
    (case yy_a_check_sky => k_is)
    (case yy_l_check_sky => k_is)
    (case yy_c_check_sky => k_is)
    (case yy_k_check_sky => k_is)
    (case yy_a__law_pick => k_is)
    (case yy_l__law_pick => k_is)
    (case yy_c__law_pick => k_is)
    (case yy_k__law_pick => k_is)
    (case yy_a_check_city => k_is)
    (case yy_l_check_city => k_is)
    (case yy_c_check_city => k_is)
    (case yy_k_check_city => k_is)
    (case yy_a_is_sky => k_is)
    (case yy_l_is_sky => k_is)
    (case yy_c_is_sky => k_is)
    (case yy_k_is_sky => k_is)
    (case yy_a__law_hours => k_is)
    (case yy_l__law_hours => k_is)
    (case yy_c__law_hours => k_is)
    (case yy_k__law_hours => k_is)
    (case yy_a__law_sky => k_is)
    (case yy_l__law_sky => k_is)
    (case yy_c__law_sky => k_is)
    (case yy_k__law_sky => k_is)
    (case yy_a__law_bent_street => k_is)
    (case yy_l__law_bent_street => k_is)
    (case yy_c__law_bent_street => k_is)
    (case yy_k__law_bent_street => k_is)
    (case yy_a__law_bent_sky => k_is)
    (case yy_l__law_bent_sky => k_is)
    (case yy_c__law_bent_sky => k_is)
    (case yy_k__law_bent_sky => k_is)
    (case yy_a_is_city => k_is)
    (case yy_l_is_city => k_is)
    (case yy_c_is_city => k_is)
    (case yy_k_is_city => k_is)
    (case yy_a__law_city => k_is)
    (case yy_l__law_city => k_is)
    (case yy_c__law_city => k_is)
    (case yy_k__law_city => k_is)
    (case yy_a__law_bent_city => k_is)
    (case yy_l__law_bent_city => k_is)
    (case yy_c__law_bent_city => k_is)
    (case yy_k__law_bent_city => k_is)
    (case yy_a_law => k_is)
    (case yy_l_law => k_is)
    (case yy_c_law => k_is)
    (case yy_k_law => k_is)
    (case yy_e0_0 => kx_is)
    (case yy_e0_1 => kx_is)
    (case yy_e0_2 => k_is)
    (case yy_e0_3 => k_is)
    (case yy_e0_4 => k_is)
    (case yy_e0_5 => k_is)
    (case yy_e0_6 => k_is)
    (case yy_e0_7 => k_is)
    (case yy_e0_8 => k_is)
    (case yy_i0 => k_is)
    (case yy_t0 => k_is)
    (case yy_lX0 => k_is)
    (case yy_cX0 => k_is)
    (case yy_kX0 => k_is)
    (case yy_n0_0 => k_is)
    (case yy_n0_1 => k_is)
    (case yy_x0_0 => k_is)
    (case yy_x0_1 => k_is)
    (case yy_e1_0 => kx_is)
    (case yy_e1_1 => kx_is)
    (case yy_e1_2 => k_is)
    (case yy_e1_3 => k_is)
    (case yy_e1_4 => k_is)
    (case yy_e1_5 => k_is)
    (case yy_e1_6 => k_is)
    (case yy_e1_7 => k_is)
    (case yy_e1_8 => k_is)
    (case yy_i1 => k_is)
    (case yy_t1 => k_is)
    (case yy_lX1 => k_is)
    (case yy_cX1 => k_is)
    (case yy_kX1 => k_is)
    (case yy_n1_0 => k_is)
    (case yy_n1_1 => k_is)
    (case yy_x1_0 => k_is)
    (case yy_x1_1 => k_is)
    (case yy_a__law_raised => k_is)
    (case yy_l__law_raised => k_is)
    (case yy_c__law_raised => k_is)
    (case yy_k__law_raised => k_is)
    (case yy_zq => rfl)
    (case yy_lq => k_is)
    (case yy_vp => rfl)
    (case yy_np => first | kernel_rfl | rfl | decide)
    (case yy_hp => first | kernel_rfl | rfl | decide)
