import PyProof.Rows.All
import Wide.All
import OpenK.AllK
import Wide.FinOn
import PyProof.RangeFor
import HandS.ForMost
import HandS.Defaults
import HandS.WideBits
import HandS.Wide
import HandS.TupMul
import HandS.TupAny
import HandS.Sort
import HandS.RevRange
import HandS.Property
import HandS.EndBits
import HandS.Head0
import HandS.Head1
import HandS.Head2
import HandS.HeadEnd
import HandS.HeadHook1
import HandS.HeadHook2
import HandS.HeadHook3
import HandS.HeadHook4
import HandS.HeadWalk
import HandS.Zip
import KE.KEqDeep
import KE.GoesEnum
import HandS.Walk
import HandS.TryOnly
import HandS.IsInst
import KE.KOpsOwn
import HandS.ClsMeth
import HandS.HeadNt
import HandS.Flow
import HandS.Conv
import KE.KDictZip
import KE.BitLaws
import KE.KxMul
import KE.KTupSum
import HandS.TupLe
import PySem.Challenge.RW_packedlanes_k04_carries
set_option Elab.async false
set_option linter.all false
set_option maxRecDepth 100000
set_option maxHeartbeats 4000000
namespace L2
open PySem PySem.Spec PyProof.Rows
/-! ### own operators: x op y of two instances of one class -/
def rOwn (C : Addr) (sp : Sp) (E : XK) : R2 := fun x y H Q => ∃ a b dx dy fs gs, x = .ref a ∧ y = .ref b ∧ H a = some (.ins C dx fs) ∧ H b = some (.ins C dy gs) ∧ sp [.ref a, .ref b] H Q E
theorem cmpBack_of {X : Cx} {pins : List (Addr × Obj)} {σ : St} {Q : VK} {u : Value} {s : Shared} (h : EP X pins σ Q u s) : PySem.W.CmpBack (EP X pins σ Q) u s := by
  obtain ⟨v, H', I', rv, q⟩ := id h
  cases v with
  | non => cases rv; exact h
  | bl b => cases rv; exact h
  | int i => obtain ⟨t, rfl⟩ := id rv; exact h
  | str i => obtain ⟨t, rfl⟩ := id rv; exact h
  | byt i => obtain ⟨t, rfl⟩ := id rv; exact h
  | flt i => obtain ⟨t, rfl⟩ := id rv; exact h
  | ref a => cases rv; exact h
  | ty n => cases rv; exact h
theorem op_own {X : Cx} {CX : CXT} {op : Operator} {x : Str} {C f : Addr} {fd : FuncData} {ps : List Str} {sp : Sp} {E : XK} {k : Nat} (hm : Meth X.K C x f) (sf : PySem.W.selfFirst X.K C = true) (F : FnOk X.prog X.w X.K X.mg X.base CX k f fd ps sp)
    (hr : Room k X.A) (hb : Binds X.K fd ps []) (hx : Passes CX X E) (hn : PySem.dunder op.info.2 = x := by first | rfl | decide +kernel) : OpR X (binaryOp op) (rOwn C sp E) := by
  intro pins s σ H x' y v u Q I rx ry h
  obtain ⟨a, b, dx, dy, fs, gs, rfl, rfl, ha, hb', hsp⟩ := h
  cases rx
  cases ry
  obtain ⟨mA, J, _⟩ := ins_get I.hok ha
  obtain ⟨mB, J', _⟩ := ins_get I.hok hb'
  obtain ⟨od, J, _⟩ := J.look
  obtain ⟨od', J', _⟩ := J'.look
  obtain ⟨m, hF⟩ := I.fr
  subst hn
  refine PySem.W.binop_K hF I.ok.mod.kin J J'.type sf hm.at_ hm.fn ?_
  exact wpAny_mono (run_fn (us := [.ref a, .ref b]) (vs := [.ref a, .ref b]) F hr hb .nil hx I (.cons rfl (.cons rfl .nil)) hsp) (fun v s' q => cmpBack_of q) fun _ _ z => z
/-! ### ranges -/
theorem op_notin_rng {X : Cx} : OpR X (compareOp .NotIn) (fun x y H Q => ∃ i a lo hi, x = V.int i ∧ y = V.ref a ∧ H a = some (.rng lo hi) ∧ Q (.bl (!decide (lo ≤ i ∧ i < hi))) H) := by
  intro pins s σ H x y v u Q I rx ry h
  obtain ⟨i, a, lo, hi, rfl, rfl, ha, q⟩ := h
  obtain ⟨k, rfl⟩ := rx
  obtain rfl : u = Value.ref a := ry
  obtain ⟨t1, t2, t3, ho⟩ := I.hok a _ ha
  show wpAny _ _ (do return Value.bool (!(← contains (Value.ref a) (Value.int i k)))) _ _ s
  refine wpAny_bind (wpAny_contains_slot (T := "range") ⟨_, ho, rfl⟩ F.slot_range_contains (call_meets F.slot_range_contains ⟨_, ho, rfl⟩ F.entry_range_contains (F.args_range_contains_2 _ _) (q_contains a lo hi i t1 t2 t3 k)
    ⟨ho, wpAny_truthy_bool (wpAny_pure ⟨.bl _, H, I, rfl, ?_⟩)⟩))
  rw [place1]
  exact q
theorem cr_range1 {X : Cx} : CallR X (.type "range") (fun vs H Q => ∃ j, vs = [V.int j] ∧ ∀ p, H p = none → Q (.ref p) (upd H p (.rng 0 j))) := by
  intro pins s σ H vs us Q I r h
  obtain ⟨i, rfl, q⟩ := h
  obtain ⟨u1, rfl, t, rfl⟩ := vals1 r
  refine call_range_1 ⟨.ref s.heap.objs.size, upd H s.heap.objs.size (.rng 0 i), I.laid (t' := s.toks + 2) (fun b o e => Heap.get?_push_of_some _ e) (Nat.le_refl _) ?_, rfl, q _ (I.hok.fresh (Nat.le_refl _))⟩
  exact ⟨s.toks, t, s.toks + 1, Heap.get?_push_size _ rfl⟩
/-! ### a law's end: script bits, one written part -/
theorem walk_ofEB {l : PySem.W.OpenLaw} {n k : Nat} {q : Program} {loose : List Str} {XP : (Str → Option Value) → Heap → Prop} {YP : World → Heap → Prop} {d : DefRec} {CX : CXT} {x : Str}
    (hn : l.most = some n) (hn2 : n ≤ sizeLine) (hdf : d.params.defaults = []) (hr : Room k callerA)
    (F : ∀ (w : World) (mg : Str → Option Value) (fa : Addr) (h : Heap), YP w h → h.Ns mainGlobals mg → mg d.name = some (.ref fa) →
      ∃ (K : PySem.W.Frag) (fd : FuncData) (sp : Sp), K.In h ∧ (∀ (s : Shared) (u : Value), BindsTo s fd ⟨[u], []⟩ [(x, u)]) ∧
        (∀ (H : Hp) (a : Addr) (ns : List Int), ns.length ≤ n → (∀ z ∈ ns, Builtin.Int.intBits z ≤ 1048576) → Only H → SqL K H a (ns.map V.int) → sp [.ref a] H (fun v _ => v = .bl true) fun _ _ _ => False) ∧
        ∀ base : Heap, K.In base → base.Ns mainGlobals mg → FnOk l.prog w K mg base CX k fa fd [x] sp)
    (hCX : ∀ (H : Hp) (s : Shared) (e : Value) (s' : Shared), CX [] H s (fun _ _ _ => False) e s' → False) :
    PySem.W.WalkO q loose XP YP l.row.toRowW d [] (fun f vs => PySem.call f vs) := by
  refine Att.attach_callB hn hdf fun w s₀ s₁ mg mb fa o pm cd doc a vs ns G Y ho hd hcd hmg hobj hints hlen hbits hg => ?_
  obtain ⟨K, fd, sp, KX, hb, hsp, hF⟩ := F w mg fa _ Y G.T.g hmg
  exact law_call KX G.T.g G.T.b G.T.builtins G.T.nolimit hg hobj hints (Nat.le_trans hlen hn2) hr hF hb (fun H hO hS => hsp H a ns hlen hbits hO hS) fun H e s' => hCX H s₁ e s'
end L2

set_option Elab.async false
set_option linter.all false
set_option maxRecDepth 100000
set_option maxHeartbeats 4000000
namespace L2
open PySem PySem.Spec PyProof.Rows
open AutoSeq1 (wpAny_loadPart')
theorem tuple_mul1 (l : Addr) (items : Array Value) (n : Nat) (dd : Option Addr) (sl : Array (Option Value)) (u : Tok) :
    Meets (Builtin.«tuple.__mul__» ⟨[.ref l, .int 1 u], []⟩) (fun _ R s => s.heap.get? l = some { cls := .type "tuple", dict := dd, data := .seq items n, slots := sl } ∧
      R (.ok (.ret (Value.ref l))) s) :=
  .of_wp fun prog w A R s h => by
    obtain ⟨hp, g, d, tk, os⟩ := s
    obtain ⟨hl, h⟩ := h
    have f1 := AutoSeq1.idx_int
    wp_walk using wpAny_loadPart' hl
    exact ⟨_, rfl, h⟩
theorem tuple_mul0 (l : Addr) (items : Array Value) (n : Nat) (dd : Option Addr) (sl : Array (Option Value)) (u : Tok) (hi : items.isEmpty = false) :
    Meets (Builtin.«tuple.__mul__» ⟨[.ref l, .int 0 u], []⟩) (fun _ R s => s.heap.get? l = some { cls := .type "tuple", dict := dd, data := .seq items n, slots := sl } ∧
      R (.ok (.ret (Value.ref s.heap.objs.size))) { s with heap := s.heap.push { cls := Value.type "tuple", data := Data.seq #[] } }) :=
  .of_wp fun prog w A R s h => by
    obtain ⟨hp, g, d, tk, os⟩ := s
    obtain ⟨hl, h⟩ := h
    have f1 := AutoSeq1.idx_int
    wp_walk using wpAny_loadPart' hl
    exact ⟨_, rfl, h⟩
def rRepA (K : PySem.W.Frag) : R2 := fun x y H Q => ∃ l k xs, x = .ref l ∧ y = .int k ∧ SqT K H l xs ∧ xs ≠ [] ∧ 0 ≤ k ∧ k ≤ 1000 ∧ xs.length ≤ 1000 ∧ ∀ H' p, Same H H' → SqT K H' p (List.replicate k.toNat xs).flatten → Q (.ref p) H'
theorem same_upd {H : Hp} {p : Addr} {o : HO} (h : H p = none) : Same H (upd H p o) := fun b x e => by
  rw [upd_ne (ne_of_none e h)]
  exact e
theorem op_repA {X : Cx} : OpR X (binaryOp .Mult) (rRepA X.K) := by
  intro pins s σ H x y v u Q I rx ry h
  obtain ⟨l, k, xs, rfl, rfl, hT, hne, h0, h2, hz, q⟩ := h
  by_cases k2 : 2 ≤ k
  · exact op_repT pins s σ H _ _ v u Q I rx ry ⟨l, k, xs, rfl, rfl, hT, hne, k2, h2, hz, fun p hp => q _ p (same_upd hp) (.inl (.inl upd_same))⟩
  cases rx
  obtain ⟨t, rfl⟩ := ry
  obtain ⟨its, r, ⟨⟨cls, dd, data, sl⟩, ho, hc, n, hd⟩, hs⟩ := I.tuple hT
  simp only at hc hd
  subst hc hd
  have hle : its.length = xs.length := r.length.symm
  have hn : its ≠ [] := fun e => hne (by
    rw [e] at hle
    exact List.eq_nil_of_length_eq_zero hle.symm)
  have hi : its.toArray.isEmpty = false := by
    cases its with
    | nil => exact absurd rfl hn
    | cons a b => rfl
  by_cases k1 : k = 1
  · subst k1
    refine wpAny_binaryOp_repeat_ref (T := "tuple") (U := "int") (by decide) ⟨_, ho, rfl⟩ (fun s' => typeIs_int s' 1 t) noFill_tuple_mul F.fills_int_mul F.slot_int_rmul repeat_tuple F.slot_int_index.lookup
      (call_meets F.slot_int_rmul (typeIs_int s 1 t) F.entry_int_rmul (F.args_int_rmul_2 _ _) (int_rmul_tuple 1 t l its.toArray n dd sl)
        ⟨ho, rfl, ⟨_, ho, rfl⟩, call_meets F.slot_tuple_mul ⟨_, ho, rfl⟩ F.entry_tuple_mul (F.args_tuple_mul_2 _ _) (tuple_mul1 l its.toArray n dd sl t) ⟨ho, ?_⟩⟩)
    refine ⟨.ref l, H, I, rfl, q H l (Same.refl H) ?_⟩
    show SqT X.K H l (List.replicate 1 xs).flatten
    simpa using hT
  · have k0 : k = 0 := by omega
    subst k0
    refine wpAny_binaryOp_repeat_ref (T := "tuple") (U := "int") (by decide) ⟨_, ho, rfl⟩ (fun s' => typeIs_int s' 0 t) noFill_tuple_mul F.fills_int_mul F.slot_int_rmul repeat_tuple F.slot_int_index.lookup
      (call_meets F.slot_int_rmul (typeIs_int s 0 t) F.entry_int_rmul (F.args_int_rmul_2 _ _) (int_rmul_tuple 0 t l its.toArray n dd sl)
        ⟨ho, rfl, ⟨_, ho, rfl⟩, call_meets F.slot_tuple_mul ⟨_, ho, rfl⟩ F.entry_tuple_mul (F.args_tuple_mul_2 _ _) (tuple_mul0 l its.toArray n dd sl t hi) ⟨ho, ?_⟩⟩)
    refine ⟨.ref s.heap.objs.size, _, I.laid (t' := s.toks) (o := .tup []) (fun b ob q => Heap.get?_push_of_some _ q) (Nat.le_refl _) ?_, rfl, q _ _ (same_upd (I.hok.fresh (Nat.le_refl _))) (.inl (.inl upd_same))⟩
    exact ⟨Nat.zero_le _, [], .nil, IsTup.new _ _⟩
end L2

set_option Elab.async false
set_option linter.all false
set_option maxRecDepth 100000
set_option maxHeartbeats 4000000
namespace L2
open PySem PySem.Spec PyProof.Rows RZ
/-! ### a list or a tuple -/
def Sq (K : PySem.W.Frag) (H : Hp) (a : Addr) (xs : List V) : Prop := SqL K H a xs ∨ SqT K H a xs
theorem Same.upd {H H1 : Hp} {p : Addr} {o : HO} (s : Same H H1) (h : H1 p = none) : Same H (upd H1 p o) := s.trans (same_upd h)
theorem Same.seqT {K : PySem.W.Frag} {H H' : Hp} {a : Addr} {xs : List V} (e : Same H H') (h : SqT K H a xs) : SqT K H' a xs := by
  rcases h with (h | ⟨o, h⟩) | h
  · exact .inl (.inl (e _ _ h))
  · exact .inl (.inr ⟨o, e _ _ h⟩)
  · exact .inr h
theorem Same.sq {K : PySem.W.Frag} {H H' : Hp} {a : Addr} {xs : List V} (e : Same H H') (h : Sq K H a xs) : Sq K H' a xs := h.imp e.seq e.seqT
/-- but for what stands at l -/
def SameBut (l : Addr) (H H' : Hp) : Prop := ∀ b o, b ≠ l → H b = some o → H' b = some o
theorem SameBut.of_upd {H : Hp} {l : Addr} {o : HO} : SameBut l H (upd H l o) := fun b x n e => by
  rw [upd_ne n]
  exact e
theorem Same.but {H H1 H2 : Hp} {l : Addr} (s : Same H H1) (hl : H l = none) (b : SameBut l H1 H2) : Same H H2 := fun c o e => b c o (ne_of_none e hl) (s c o e)
/-! ### rules whose new things stand in a new heap -/
section
variable {X : Cx}
theorem PE.imp {e : Expr} {t t' : TE} (h : PE X e t) (f : ∀ σ H Q, t' σ H Q → t σ H Q) : PE X e t' := ⟨fun pins s σ H Q I q => h.run pins s σ H Q I (f σ H Q q)⟩
def NewL (xs : List V) (H : Hp) (Q : VK) : Prop := ∀ H' p, Same H H' → H p = none → H' p = some (.lst xs) → Q (.ref p) H'
def NewT (K : PySem.W.Frag) (xs : List V) (H : Hp) (Q : VK) : Prop := ∀ H' p, Same H H' → SqT K H' p xs → Q (.ref p) H'
theorem NewL.go {xs : List V} {H : Hp} {Q : VK} (h : NewL xs H Q) : ∀ p, H p = none → Q (.ref p) (upd H p (.lst xs)) := fun p hp => h _ p (same_upd hp) hp upd_same
theorem NewT.go {K : PySem.W.Frag} {xs : List V} {H : Hp} {Q : VK} (h : NewT K xs H Q) : ∀ p, H p = none → Q (.ref p) (upd H p (.tup xs)) := fun p hp => h _ p (same_upd hp) (.inl (.inl upd_same))
def tLstN (t : TA) : TE := fun σ H Q => t σ H fun xs H1 => xs.length ≤ sizeLine ∧ NewL xs H1 Q
def tTupN (K : PySem.W.Frag) (t : TA) : TE := fun σ H Q => t σ H fun xs H1 => xs.length ≤ sizeLine ∧ NewT K xs H1 Q
def upA (t : TA) : TA := fun σ H Q => ∃ Q0 : List V → Hp → Prop, t σ H Q0 ∧ ∀ xs H, Q0 xs H → Q xs H
theorem PA.up {es : List Expr} {t : TA} (h : PA X es t) : PA X es (upA t) := ⟨fun pos pins s σ H Q I ⟨Q0, q, f⟩ => thn (h.run pos pins s σ H Q0 I q) fun us s1 ⟨vs, H1, I1, r1, q1⟩ => ⟨vs, H1, I1, r1, f _ _ q1⟩⟩
theorem pe_lstN {es : List Expr} {t : TA} {pos : Pos} (h : PA X es t) : PE X (.List es pos) (tLstN t) := (pe_lst h.up).imp fun σ H Q q => ⟨_, q, fun xs H1 z => ⟨z.1, z.2.go⟩⟩
theorem pe_tupN {es : List Expr} {t : TA} {x1} {pos : Pos} (h : PA X es t) : PE X (.Tuple es x1 pos) (tTupN X.K t) := (pe_tup h.up).imp fun σ H Q q => ⟨_, q, fun xs H1 z => ⟨z.1, z.2.go⟩⟩
theorem call_listN : CallR X (.type "list") (fun xs H Q => ∃ p ys, xs = [.ref p] ∧ Sq X.K H p ys ∧ NewL ys H Q) := fun pins s σ H xs us Q I r ⟨p, ys, e, h, q⟩ => call_list_of pins s σ H xs us Q I r ⟨p, ys, e, h, q.go⟩
theorem call_tupleN : CallR X (.type "tuple") (fun xs H Q => ∃ p ys, xs = [.ref p] ∧ Sq X.K H p ys ∧ NewT X.K ys H Q) := fun pins s σ H xs us Q I r ⟨p, ys, e, h, q⟩ => call_tuple_of pins s σ H xs us Q I r ⟨p, ys, e, h.elim (fun h => .inl ⟨h, q.go⟩) fun h => .inr ⟨h, q H p (Same.refl H) h⟩⟩
theorem call_lenN : CallR X (.builtin "len") (fun xs H Q => ∃ p ys, xs = [.ref p] ∧ Sq X.K H p ys ∧ Q (.int ys.length) H) := call_len_seq
theorem cut_all {xs : List V} {lo hi : Option Int} (h : HT.sIx xs.length 0 lo = 0 ∧ HT.sIx xs.length xs.length hi = xs.length) : cutV xs lo hi = xs := by
  unfold cutV
  rw [h.1, h.2]
  simp
/-- a slice of a tuple -/
def rSlT2 (K : PySem.W.Frag) : V → Option Int → Option Int → Hp → VK → Prop := fun x lo hi H Q => ∃ a xs, x = .ref a ∧ SqT K H a xs ∧ NewT K (cutV xs lo hi) H Q
theorem sl_tupN : SlR X (rSlT2 X.K) := by
  intro pins s σ H x v vl vu lo hi sl Q I r1 r2 r3 r4 h
  obtain ⟨a, xs, rfl, hS, q⟩ := h
  refine sl_tupA pins s σ H _ v vl vu lo hi sl Q I r1 r2 r3 r4 ⟨a, xs, rfl, hS, fun hc => ?_, fun _ => q.go⟩
  refine q H a (Same.refl H) ?_
  rw [cut_all hc]
  exact hS
def rSlL2 (K : PySem.W.Frag) : V → Option Int → Option Int → Hp → VK → Prop := fun x lo hi H Q => ∃ a xs, x = .ref a ∧ SqL K H a xs ∧ NewL (cutV xs lo hi) H Q
theorem sl_listN : SlR X (rSlL2 X.K) := fun pins s σ H x v vl vu lo hi sl Q I r1 r2 r3 r4 ⟨a, xs, e, hS, q⟩ => sl_list pins s σ H x v vl vu lo hi sl Q I r1 r2 r3 r4 ⟨a, xs, e, hS, q.go⟩
def rCatN : R2 := fun x y H Q => ∃ l b xs zs, x = .ref l ∧ y = .ref b ∧ H l = some (.lst xs) ∧ H b = some (.lst zs) ∧ xs.length + zs.length ≤ sizeLine ∧ NewL (xs ++ zs) H Q
theorem op_catN : OpR X (binaryOp .Add) rCatN := fun pins s σ H x y v u Q I r1 r2 ⟨l, b, xs, zs, e1, e2, h1, h2, h3, q⟩ => op_cat pins s σ H x y v u Q I r1 r2 ⟨l, b, xs, zs, e1, e2, h1, h2, h3, q.go⟩
def rRepN : R2 := fun x y H Q => ∃ l k xs, x = .ref l ∧ y = .int k ∧ H l = some (.lst xs) ∧ -(2 ^ 63) ≤ k ∧ k < 2 ^ 63 ∧ xs.length * k.toNat ≤ sizeLine ∧ NewL (List.replicate k.toNat xs).flatten H Q
theorem op_repN : OpR X (binaryOp .Mult) rRepN := fun pins s σ H x y v u Q I r1 r2 ⟨l, k, xs, e1, e2, h1, h2, h3, h4, q⟩ => op_rep pins s σ H x y v u Q I r1 r2 ⟨l, k, xs, e1, e2, h1, h2, h3, h4, q.go⟩
def rCatT2 (K : PySem.W.Frag) : R2 := fun x y H Q => ∃ a b xs ys, x = .ref a ∧ y = .ref b ∧ SqT K H a xs ∧ SqT K H b ys ∧ xs.length + ys.length ≤ sizeLine ∧ NewT K (xs ++ ys) H Q
theorem op_catTN : OpR X (binaryOp .Add) (rCatT2 X.K) := fun pins s σ H x y v u Q I r1 r2 ⟨a, b, xs, ys, e1, e2, h1, h2, h3, q⟩ =>
  op_catA pins s σ H x y v u Q I r1 r2 ⟨a, b, xs, ys, e1, e2, h1, h2, h3, (fun e => q H b (Same.refl H) (by rw [e]; exact h2)), (fun _ e => q H a (Same.refl H) (by rw [e, List.append_nil]; exact h1)), fun _ _ => q.go⟩
def rAppendN : V → List V → Hp → VK → Prop := fun x vs H Q => ∃ l xs y, x = .ref l ∧ vs = [y] ∧ H l = some (.lst xs) ∧ xs.length < sizeLine ∧ ∀ H', SameBut l H H' → H' l = some (.lst (xs ++ [y])) → Q .non H'
theorem mt_appendN : MtM X "list.append" rAppendN := fun pins s σ H x vs v us Q I r1 r2 ⟨l, xs, y, e1, e2, h1, h2, q⟩ => mt_append pins s σ H x vs v us Q I r1 r2 ⟨l, xs, y, e1, e2, h1, h2, q _ .of_upd upd_same⟩
theorem cr_rangeN1 : CallR X (.type "range") (fun vs H Q => ∃ j, vs = [V.int j] ∧ ∀ H' p, Same H H' → H' p = some (.rng 0 j) → Q (.ref p) H') := fun pins s σ H vs us Q I r ⟨j, e, q⟩ => cr_range1 pins s σ H vs us Q I r ⟨j, e, fun p hp => q _ p (same_upd hp) upd_same⟩
theorem cr_rangeN2 : CallR X (.type "range") (fun vs H Q => ∃ i j, vs = [V.int i, V.int j] ∧ ∀ H' p, Same H H' → H' p = some (.rng i j) → Q (.ref p) H') := fun pins s σ H vs us Q I r ⟨i, j, e, q⟩ => cr_range2 pins s σ H vs us Q I r ⟨i, j, e, fun p hp => q _ p (same_upd hp) upd_same⟩
/-- xs[i] = v, a list -/
def rSetN : V → V → V → Hp → (Hp → Prop) → Prop := fun o i v H Q => ∃ p xs k j, o = .ref p ∧ i = .int k ∧ H p = some (.lst xs) ∧ ixN xs.length k = some j ∧ ∀ H', SameBut p H H' → H' p = some (.lst (xs.set j v)) → Q H'
/-! ### weaker ends -/
def upE (t : TE) : TE := fun σ H Q => ∃ Q0 : VK, t σ H Q0 ∧ ∀ v H, Q0 v H → Q v H
def upT (t : TT) : TT := fun σ H Q => ∃ Q0 : Bool → Hp → Prop, t σ H Q0 ∧ ∀ v H, Q0 v H → Q v H
def upG (t : TG) : TG := fun v σ H Q => ∃ Q0 : St → Hp → Prop, t v σ H Q0 ∧ ∀ σ H, Q0 σ H → Q σ H
def upI (t : TI) : TI := fun σ H R => ∃ R0 : It → Hp → Prop, t σ H R0 ∧ ∀ J H, R0 J H → R J H
theorem PE.up {e : Expr} {t : TE} (h : PE X e t) : PE X e (upE t) := ⟨fun pins s σ H Q I ⟨Q0, q, f⟩ => thn (h.run pins s σ H Q0 I q) fun us s1 ⟨vs, H1, I1, r1, q1⟩ => ⟨vs, H1, I1, r1, f _ _ q1⟩⟩
theorem PTs.up {e : List Expr} {t : TT} (h : PTs X e t) : PTs X e (upT t) := ⟨fun pins s σ H Q I ⟨Q0, q, f⟩ => thn (h.run pins s σ H Q0 I q) fun us s1 ⟨H1, I1, q1⟩ => ⟨H1, I1, f _ _ q1⟩⟩
theorem PT.up {e : Expr} {t : TT} (h : PT X e t) : PT X e (upT t) := ⟨fun pins s σ H Q I ⟨Q0, q, f⟩ => thn (h.run pins s σ H Q0 I q) fun us s1 ⟨H1, I1, q1⟩ => ⟨H1, I1, f _ _ q1⟩⟩
theorem PG.up {e : Expr} {t : TG} (h : PG X e t) : PG X e (upG t) := ⟨fun pins s σ H v u Q I r ⟨Q0, q, f⟩ => thn (h.run pins s σ H v u Q0 I r q) fun us s1 ⟨σ1, H1, I1, q1⟩ => ⟨σ1, H1, I1, f _ _ q1⟩⟩
theorem PI.up {tg e : Expr} {t : TI} (h : PI X tg e t) : PI X tg e (upI t) := ⟨fun pins s σ H R I ⟨R0, q, f⟩ => thn (h.run pins s σ H R0 I q) fun v s1 z => thn z fun w s2 ⟨it, fp, tn, J, H', e1, e2, e3, e4, e5, e6⟩ => ⟨it, fp, tn, J, H', e1, e2, e3, e4, e5, f _ _ e6⟩⟩
/-! ### [elt for target in iter if ..]: the list so far a letter -/
def tLcN (wi : TI) (g : TG) (tt : TT) (te : TE) (vs : List Nat) : TE := fun σ H Q => wi σ H fun J H1 => ∀ D H1', H1 D = none → Same H1 H1' → H1' D = some (.lst []) → ∃ W : Nat → Nat → List V → Hp → Prop, (∃ m, W 0 m [] H1') ∧ ∀ i m acc H, W i m acc H → H D = some (.lst acc) →
  (J.stop i H ∧ Q (.ref D) H) ∨ (J.go i H ∧ ∃ Nx : List V → Hp → Prop, (∀ acc' H', Nx acc' H' → ∃ m', m' < m ∧ W (i + 1) m' acc' H') ∧ ∀ x H', J.yld i H x H' → g x (wipe σ vs) H' fun σ2 H2 => wipe σ2 vs = wipe σ vs ∧ tt σ2 H2 fun b H3 =>
    if b = true then te σ2 H3 fun y H4 => H4 D = some (.lst acc) ∧ acc.length < sizeLine ∧ ∀ H5, SameBut D H4 H5 → H5 D = some (.lst (acc ++ [y])) → Nx (acc ++ [y]) H5 else H3 D = some (.lst acc) ∧ Nx acc H3)
theorem lc_of {wi : TI} {g : TG} {tt : TT} {te : TE} {vs : List Nat} {σ : St} {H : Hp} {Q : VK} (h : tLcN wi g tt te vs σ H Q) : tLc (upI wi) (upG g) (upT tt) (upE te) vs σ H Q := by
  refine ⟨_, h, fun J H1 q D hD => ?_⟩
  obtain ⟨W, ⟨m, w0⟩, step⟩ := q D _ hD (same_upd hD) upd_same
  refine ⟨fun i m H => ∃ acc, H D = some (.lst acc) ∧ W i m acc H, ⟨m, [], upd_same, w0⟩, ?_⟩
  rintro i m H ⟨acc, eD, w⟩
  rcases step i m acc H w eD with z | ⟨go, Nx, hN, z⟩
  · exact .inl z
  · refine .inr ⟨go, fun H' => ∃ acc, H' D = some (.lst acc) ∧ Nx acc H', ?_, fun x H' y => ⟨_, z x H' y, fun σ2 H2 q2 => ⟨q2.1, _, q2.2, fun b H3 q3 => ?_⟩⟩⟩
    · rintro H' ⟨acc', e', n'⟩
      obtain ⟨m', lt, w'⟩ := hN acc' H' n'
      exact ⟨m', lt, acc', e', w'⟩
    · cases b with
      | true =>
        rw [if_pos rfl] at q3
        rw [if_pos rfl]
        refine ⟨_, q3, fun y H4 ⟨e4, l4, q4⟩ => ⟨acc, e4, l4, acc ++ [y], upd_same, q4 _ .of_upd upd_same⟩⟩
      | false =>
        rw [if_neg Bool.false_ne_true] at q3
        rw [if_neg Bool.false_ne_true]
        exact ⟨acc, q3.1, q3.2⟩
theorem pe_lcN {elt tg iter : Expr} {ifs : List Expr} {scope : Scope} {own : List (Str × Nat)} {pos : Pos} {wi : TI} {g : TG} {tt : TT} {te : TE} (hc : X.calm = true) (hN : X.N.Nodup) (hi : PI X tg iter wi) (ok : BlkOk X.N X.env.scope scope own)
    (hg : ∀ (s : Shared) (H : Hp) (C : Addr) (cl : List (Str × Addr)) (fp : List Addr), PG (X.blk s H scope (compEnvC scope cl C X.env) fp) tg g) (ht : ∀ (s : Shared) (H : Hp) (C : Addr) (cl : List (Str × Addr)) (fp : List Addr), PTs (X.blk s H scope (compEnvC scope cl C X.env) fp) ifs tt)
    (he : ∀ (s : Shared) (H : Hp) (C : Addr) (cl : List (Str × Addr)) (fp : List Addr), PE (X.blk s H scope (compEnvC scope cl C X.env) fp) elt te) (hs : ∀ x, foldedSetIterable iter X.env x = pure x := by intro _; rfl) :
    PE X (.ListComp elt [⟨tg, iter, ifs, 0⟩] scope pos) (tLcN wi g tt te (own.map (·.2))) :=
  (pe_lc hc hN hi.up ok (fun s H C cl fp => (hg s H C cl fp).up) (fun s H C cl fp => (ht s H C cl fp).up) (fun s H C cl fp => (he s H C cl fp).up) hs).imp fun σ H Q q => lc_of q
theorem PS.imp {st : Stmt} {t t' : TS} (h : PS X st t) (f : ∀ D σ H, t' D σ H → t D σ H) : PS X st t' := ⟨fun pins s σ H D I q => h.run pins s σ H D I (f D σ H q)⟩
theorem ps_setLcN {i : Nat} {y : Str} {py : Pos} {elt tg iter : Expr} {ifs : List Expr} {scope : Scope} {own : List (Str × Nat)} {pos spos : Pos} {wi : TI} {g : TG} {tt : TT} {te : TE} (hc : X.calm = true) (hN : X.N.Nodup) (hy : X.N[i]? = some y) (hyl : X.env.scope.names.lookup y = some .local)
    (hsw : swapsWith (.ListComp elt [⟨tg, iter, ifs, 0⟩] scope pos) (some (.Name y py)) spos.line X.env = pure true) (hi : PI X tg iter wi) (ok : BlkOk X.N X.env.scope scope own)
    (hg : ∀ (s : Shared) (H : Hp) (C : Addr) (cl : List (Str × Addr)) (fp : List Addr), PG (X.blk s H scope (compEnvC scope cl C X.env) fp) tg g) (ht : ∀ (s : Shared) (H : Hp) (C : Addr) (cl : List (Str × Addr)) (fp : List Addr), PTs (X.blk s H scope (compEnvC scope cl C X.env) fp) ifs tt)
    (he : ∀ (s : Shared) (H : Hp) (C : Addr) (cl : List (Str × Addr)) (fp : List Addr), PE (X.blk s H scope (compEnvC scope cl C X.env) fp) elt te) (hs : ∀ x, foldedSetIterable iter X.env x = pure x := by intro _; rfl) :
    PS X (.Assign [.Name y py] (.ListComp elt [⟨tg, iter, ifs, 0⟩] scope pos) spos) (tAsg (tLcN wi g tt te (own.map (·.2))) (gName i)) :=
  (ps_setLc hc hN hy hyl hsw hi.up ok (fun s H C cl fp => (hg s H C cl fp).up) (fun s H C cl fp => (ht s H C cl fp).up) (fun s H C cl fp => (he s H C cl fp).up) hs).imp fun D σ H q => lc_of q
/-- walks of a list or a tuple -/
def iSq (K : PySem.W.Frag) (tl : TE) : TI := fun σ H R => tl σ H fun x H1 => ∃ a, x = .ref a ∧ ((∃ xs, SqL K H1 a xs ∧ R (Itl K a) H1) ∨ (∃ xs, SqT K H1 a xs ∧ R (Itt K a) H1))
theorem pi_sq {tg l : Expr} {tl : TE} (hl : PE X l tl) : PI X tg l (iSq X.K tl) := by
  refine ⟨fun pins s σ H R I h => ?_⟩
  refine thn (hl.run pins s σ H _ I h) fun v s1 ⟨x, H1, I1, r1, q1⟩ => ?_
  obtain ⟨a, e, ⟨xs, hq, q⟩ | ⟨xs, hq, q⟩⟩ := q1
  · subst e
    cases r1
    obtain ⟨its, rv, p, hz⟩ := I1.list hq
    refine wpAny_pyIter_list p.isList ?_
    refine ⟨s1.heap.objs.size, [s1.heap.objs.size], _, _, H1, rfl, I1.kept (t' := s1.toks) fun b o e => Heap.get?_push_of_some _ e, turn_list a _, ⟨_, Heap.get?_push_size _ rfl, rfl, rfl⟩, fun b hb => ?_, q⟩
    have e : b = s1.heap.objs.size := by simpa using hb
    subst e
    exact I1.fpOk (Nat.le_refl _) (I1.hok.fresh (Nat.le_refl _))
  · subst e
    cases r1
    obtain ⟨its, rv, p, hz⟩ := I1.tuple hq
    refine wpAny_pyIter_tuple (show s1.heap.IsTuple a its.toArray from p) ?_
    refine ⟨s1.heap.objs.size, [s1.heap.objs.size], _, _, H1, rfl, I1.kept (t' := s1.toks) fun b o e => Heap.get?_push_of_some _ e, turn_tuple a _, ⟨_, Heap.get?_push_size _ rfl, rfl, rfl⟩, fun b hb => ?_, q⟩
    have e : b = s1.heap.objs.size := by simpa using hb
    subst e
    exact I1.fpOk (Nat.le_refl _) (I1.hok.fresh (Nat.le_refl _))
end
/-! ### loops -/
theorem len_big {n : Nat} (h : n ≤ 1000000) : n < sizeLine := Nat.lt_of_le_of_lt h (by decide)
section
variable {K : PySem.W.Frag} {g : TG} {tt : TT} {te : TE} {vs : List Nat} {σ : St} {H1 : Hp} {D a : Addr} {xs ys : List V} {Qd : Hp → Prop}
/-- what a comprehension's reading asks behind its walk J -/
abbrev LcGoal (J : It) (g : TG) (tt : TT) (te : TE) (vs : List Nat) (σ : St) (H1' : Hp) (D : Addr) (Qd : Hp → Prop) : Prop := ∃ W : Nat → Nat → List V → Hp → Prop, (∃ m, W 0 m [] H1') ∧ ∀ i m acc H, W i m acc H → H D = some (.lst acc) →
  (J.stop i H ∧ Qd H) ∨ (J.go i H ∧ ∃ Nx : List V → Hp → Prop, (∀ acc' H', Nx acc' H' → ∃ m', m' < m ∧ W (i + 1) m' acc' H') ∧ ∀ x H', J.yld i H x H' → g x (wipe σ vs) H' fun σ2 H2 => wipe σ2 vs = wipe σ vs ∧ tt σ2 H2 fun b H3 =>
    if b = true then te σ2 H3 fun y H4 => H4 D = some (.lst acc) ∧ acc.length < sizeLine ∧ ∀ H5, SameBut D H4 H5 → H5 D = some (.lst (acc ++ [y])) → Nx (acc ++ [y]) H5 else H3 D = some (.lst acc) ∧ Nx acc H3)
/-- over a range: I of the turn, what is made so far, the heap -/
theorem lcN_range {lo : Int} {n : Nat} (I : Nat → List V → Hp → Prop) (h0 : I 0 [] H1)
    (hs : ∀ i acc H, i < n → I i acc H → H D = some (.lst acc) → g (.int (lo + i)) (wipe σ vs) H fun σ2 H2 => wipe σ2 vs = wipe σ vs ∧ tt σ2 H2 fun b H3 =>
      if b = true then te σ2 H3 fun y H4 => H4 D = some (.lst acc) ∧ acc.length < sizeLine ∧ ∀ H5, SameBut D H4 H5 → H5 D = some (.lst (acc ++ [y])) → I (i + 1) (acc ++ [y]) H5 else H3 D = some (.lst acc) ∧ I (i + 1) acc H3)
    (hd : ∀ acc H, I n acc H → H D = some (.lst acc) → Qd H) : LcGoal (Itr lo n) g tt te vs σ H1 D Qd := by
  refine ⟨fun i m acc H => m = n - i ∧ i ≤ n ∧ I i acc H, ⟨n, by simp, Nat.zero_le _, h0⟩, ?_⟩
  rintro i m acc H ⟨rfl, hi, p⟩ eD
  by_cases hlt : i < n
  · refine .inr ⟨hlt, I (i + 1), fun acc' H' p' => ⟨n - (i + 1), by omega, rfl, hlt, p'⟩, fun x H' y => ?_⟩
    obtain ⟨e, y⟩ := y
    subst e y
    exact hs i acc _ hlt p eD
  · have e : i = n := by omega
    subst e
    exact .inl ⟨Nat.le_refl _, hd acc H p eD⟩
theorem lcN_list (I : Nat → List V → Hp → Prop) (h0 : I 0 [] H1) (hl : ∀ i acc H, i ≤ xs.length → I i acc H → H D = some (.lst acc) → SqL K H a xs)
    (hs : ∀ i x acc H, xs[i]? = some x → I i acc H → H D = some (.lst acc) → g x (wipe σ vs) H fun σ2 H2 => wipe σ2 vs = wipe σ vs ∧ tt σ2 H2 fun b H3 =>
      if b = true then te σ2 H3 fun y H4 => H4 D = some (.lst acc) ∧ acc.length < sizeLine ∧ ∀ H5, SameBut D H4 H5 → H5 D = some (.lst (acc ++ [y])) → I (i + 1) (acc ++ [y]) H5 else H3 D = some (.lst acc) ∧ I (i + 1) acc H3)
    (hd : ∀ acc H, I xs.length acc H → H D = some (.lst acc) → Qd H) : LcGoal (Itl K a) g tt te vs σ H1 D Qd := by
  refine ⟨fun i m acc H => m = xs.length - i ∧ i ≤ xs.length ∧ I i acc H, ⟨xs.length, by simp, Nat.zero_le _, h0⟩, ?_⟩
  rintro i m acc H ⟨rfl, hi, p⟩ eD
  have q := hl i acc H hi p eD
  by_cases hlt : i < xs.length
  · refine .inr ⟨⟨xs, xs[i], q, by simp [hlt]⟩, I (i + 1), fun acc' H' p' => ⟨xs.length - (i + 1), by omega, rfl, hlt, p'⟩, fun x H' y => ?_⟩
    obtain ⟨e, y⟩ := y
    subst e
    exact hs i x acc _ (y xs q) p eD
  · have e : i = xs.length := by omega
    subst e
    exact .inl ⟨⟨xs, q, Nat.le_refl _⟩, hd acc H p eD⟩
theorem lcN_tup (I : Nat → List V → Hp → Prop) (h0 : I 0 [] H1) (hl : ∀ i acc H, i ≤ xs.length → I i acc H → H D = some (.lst acc) → SqT K H a xs)
    (hs : ∀ i x acc H, xs[i]? = some x → I i acc H → H D = some (.lst acc) → g x (wipe σ vs) H fun σ2 H2 => wipe σ2 vs = wipe σ vs ∧ tt σ2 H2 fun b H3 =>
      if b = true then te σ2 H3 fun y H4 => H4 D = some (.lst acc) ∧ acc.length < sizeLine ∧ ∀ H5, SameBut D H4 H5 → H5 D = some (.lst (acc ++ [y])) → I (i + 1) (acc ++ [y]) H5 else H3 D = some (.lst acc) ∧ I (i + 1) acc H3)
    (hd : ∀ acc H, I xs.length acc H → H D = some (.lst acc) → Qd H) : LcGoal (Itt K a) g tt te vs σ H1 D Qd := by
  refine ⟨fun i m acc H => m = xs.length - i ∧ i ≤ xs.length ∧ I i acc H, ⟨xs.length, by simp, Nat.zero_le _, h0⟩, ?_⟩
  rintro i m acc H ⟨rfl, hi, p⟩ eD
  have q := hl i acc H hi p eD
  by_cases hlt : i < xs.length
  · refine .inr ⟨⟨xs, xs[i], q, by simp [hlt]⟩, I (i + 1), fun acc' H' p' => ⟨xs.length - (i + 1), by omega, rfl, hlt, p'⟩, fun x H' y => ?_⟩
    obtain ⟨e, y⟩ := y
    subst e
    exact hs i x acc _ (y xs q) p eD
  · have e : i = xs.length := by omega
    subst e
    exact .inl ⟨⟨xs, q, Nat.le_refl _⟩, hd acc H p eD⟩
/-- over zip of two tuples: the items x, y of each turn; T the pair -/
theorem lcN_zipT {b : Addr} (I : Nat → List V → Hp → Prop) (h0 : I 0 [] H1) (hl : ∀ i acc H, i ≤ min xs.length ys.length → I i acc H → H D = some (.lst acc) → SqT K H a xs ∧ SqT K H b ys)
    (hs : ∀ i x y acc H H2 T, xs[i]? = some x → ys[i]? = some y → I i acc H → H D = some (.lst acc) → Same H H2 → SqT K H2 T [x, y] → g (.ref T) (wipe σ vs) H2 fun σ2 H2 => wipe σ2 vs = wipe σ vs ∧ tt σ2 H2 fun b H3 =>
      if b = true then te σ2 H3 fun y H4 => H4 D = some (.lst acc) ∧ acc.length < sizeLine ∧ ∀ H5, SameBut D H4 H5 → H5 D = some (.lst (acc ++ [y])) → I (i + 1) (acc ++ [y]) H5 else H3 D = some (.lst acc) ∧ I (i + 1) acc H3)
    (hd : ∀ acc H, I (min xs.length ys.length) acc H → H D = some (.lst acc) → Qd H) : LcGoal (ItzT K a b) g tt te vs σ H1 D Qd := by
  refine ⟨fun i m acc H => m = min xs.length ys.length - i ∧ i ≤ min xs.length ys.length ∧ I i acc H, ⟨min xs.length ys.length, by simp, Nat.zero_le _, h0⟩, ?_⟩
  rintro i m acc H ⟨rfl, hi, p⟩ eD
  obtain ⟨q, q'⟩ := hl i acc H hi p eD
  by_cases hlt : i < min xs.length ys.length
  · have h1 : i < xs.length := by omega
    have h2 : i < ys.length := by omega
    refine .inr ⟨⟨xs, ys, xs[i], ys[i], q, q', by simp [h1], by simp [h2]⟩, I (i + 1), fun acc' H' p' => ⟨min xs.length ys.length - (i + 1), by omega, rfl, hlt, p'⟩, fun x H' y => ?_⟩
    obtain ⟨T, x1, x2, rfl, nT, rfl, f1, f2⟩ := y
    exact hs i x1 x2 acc H _ T (f1 _ q) (f2 _ q') p eD (same_upd nT) (.inl (.inl upd_same))
  · have e : i = min xs.length ys.length := by omega
    subst e
    refine .inl ⟨⟨xs, ys, q, q', by omega⟩, hd acc H p eD⟩
end
/-- a pair unpacked into two names -/
theorem g_pair {K : PySem.W.Frag} {i j : Nat} {σ : St} {H : Hp} {T : Addr} {x y : V} {Q : St → Hp → Prop} (hT : SqT K H T [x, y]) (q : Q ((σ.set i (some x)).set j (some y)) H) : gTup K 2 (gCons (gName i) (gCons (gName j) gNil)) (.ref T) σ H Q :=
  ⟨T, [x, y], rfl, hT, rfl, x, [y], rfl, y, [], rfl, rfl, q⟩
/-! ### the same rules, the written part a letter of its own (within a comprehension's block) -/
section
variable {X : Cx} {K : PySem.W.Frag}
theorem ix_listK (hK : X.K = K := by rfl) : IxR X (rIxL K) := hK ▸ ix_list
theorem ix_tupK (hK : X.K = K := by rfl) : IxR X (rIxT K) := hK ▸ ix_tup
theorem sl_listK (hK : X.K = K := by rfl) : SlR X (rSlL2 K) := hK ▸ sl_listN
theorem sl_tupK (hK : X.K = K := by rfl) : SlR X (rSlT2 K) := hK ▸ sl_tupN
def rLenN (K : PySem.W.Frag) : List V → Hp → VK → Prop := fun xs H Q => ∃ p ys, xs = [.ref p] ∧ Sq K H p ys ∧ Q (.int ys.length) H
theorem call_lenK (hK : X.K = K := by rfl) : CallR X (.builtin "len") (rLenN K) := hK ▸ call_lenN
def rListN (K : PySem.W.Frag) : List V → Hp → VK → Prop := fun xs H Q => ∃ p ys, xs = [.ref p] ∧ Sq K H p ys ∧ NewL ys H Q
theorem call_listK (hK : X.K = K := by rfl) : CallR X (.type "list") (rListN K) := hK ▸ call_listN
def rTupleN (K : PySem.W.Frag) : List V → Hp → VK → Prop := fun xs H Q => ∃ p ys, xs = [.ref p] ∧ Sq K H p ys ∧ NewT K ys H Q
theorem call_tupleK (hK : X.K = K := by rfl) : CallR X (.type "tuple") (rTupleN K) := hK ▸ call_tupleN
theorem op_repAK (hK : X.K = K := by rfl) : OpR X (binaryOp .Mult) (rRepA K) := hK ▸ op_repA
theorem op_catTK (hK : X.K = K := by rfl) : OpR X (binaryOp .Add) (rCatT2 K) := hK ▸ op_catTN
theorem op_eqDK (hu : X.A.units + 64 < cLine) (hK : X.K = K := by rfl) : OpR X (compareOp .Eq) (rEqD K) := hK ▸ op_eqD hu
theorem op_neDK (hu : X.A.units + 64 < cLine) (hK : X.K = K := by rfl) : OpR X (compareOp .NotEq) (rNeD K) := hK ▸ op_neD hu
theorem op_inK (hK : X.K = K := by rfl) : OpR X (compareOp .In) (rIn K false) := hK ▸ op_in_seq
theorem op_notInK (hK : X.K = K := by rfl) : OpR X (compareOp .NotIn) (rIn K true) := hK ▸ op_notIn_seq
theorem call_sumK (hc : X.calm = true) (hK : X.K = K := by rfl) : CallR X (.builtin "sum") (rSum K) := hK ▸ cr_sum hc
theorem call_maxK (hc : X.calm = true) (hK : X.K = K := by rfl) : CallR X (.builtin "max") (rMax K) := hK ▸ cr_max hc
theorem call_allK (hc : X.calm = true) (hK : X.K = K := by rfl) : CallR X (.builtin "all") (rAll K) := hK ▸ cr_all hc
theorem call_anyK (hc : X.calm = true) (hK : X.K = K := by rfl) : CallR X (.builtin "any") (rAny K) := hK ▸ cr_any hc
theorem pe_tupK {es : List Expr} {t : TA} {x1} {pos : Pos} (h : PA X es t) (hK : X.K = K := by rfl) : PE X (.Tuple es x1 pos) (tTupN K t) := hK ▸ pe_tupN h
theorem pe_fldK {e : Expr} {f : Str} {pos : Pos} {ta : TE} (he : PE X e ta) (hb : attributeBase e f X.env (eval e X.env) = eval e X.env) (hK : X.K = K := by rfl) : PE X (.Attribute e f pos) (tFld K ta f) := hK ▸ pe_fld he hb
theorem pi_listK {tg l : Expr} {tl : TE} (hl : PE X l tl) (hK : X.K = K := by rfl) : PI X tg l (iList K tl) := hK ▸ pi_list hl
theorem pi_tupK {tg l : Expr} {tl : TE} (hl : PE X l tl) (hK : X.K = K := by rfl) : PI X tg l (iTup K tl) := hK ▸ pi_tup hl
theorem pi_sqK {tg l : Expr} {tl : TE} (hl : PE X l tl) (hK : X.K = K := by rfl) : PI X tg l (iSq K tl) := hK ▸ pi_sq hl
theorem pt_truthK {e : Expr} {te : TE} (he : PE X e te) (hw : ∀ whole, isTrue e X.env whole = (do let v ← whole; standAt e.pos; holding [v] (truthy v))) (hK : X.K = K := by rfl) : PT X e (fun σ H Q => te σ H fun x H' => ∃ k, TruV K x H' k ∧ Q k H') := hK ▸ pt_truth he hw
theorem pg_pair {i j : Nat} {x y : Str} {p1 p2 pos : Pos} {kk : Nat} (hc : X.calm = true) (hN : X.N.Nodup) (hi : X.N[i]? = some x) (hj : X.N[j]? = some y) (hx : Loc X.env.scope x) (hy : Loc X.env.scope y)
    (hf : X.fn x = true ∨ X.env.scope.names.lookup x = some .local := by first | exact .inl rfl | exact .inr rfl | assumption) (hf2 : X.fn y = true ∨ X.env.scope.names.lookup y = some .local := by first | exact .inl rfl | exact .inr rfl | assumption) (hK : X.K = K := by rfl) :
    PG X (.Tuple [.Name x p1, .Name y p2] kk pos) (gTup K 2 (gCons (gName i) (gCons (gName j) gNil))) := hK ▸ pg_tup hc (pgs_cons (pg_name hN hi hx hf) (pgs_cons (pg_name hN hj hy hf2) pgs_nil))
end
section
variable {X : Cx}
/-- an if whose two ways meet again: J holds where they meet -/
def tIfJ (c : TT) (t u : TS) : TS := fun D σ H => ∃ J : L2.St → Hp → Prop, (c σ H fun b H1 => if b = true then t { D with nx := J } σ H1 else u { D with nx := J } σ H1) ∧ ∀ σ' H', J σ' H' → D.nx σ' H'
theorem ps_ifJ {c : Expr} {a b : List Stmt} {pos : Pos} {tc : TT} {t u : TS} (hc : PT X c tc) (ha : PSs X a t) (hb : PSs X b u) : PS X (.If c a b pos) (tIfJ tc t u) := ⟨fun pins s σ H D I ⟨J, h, f⟩ => thn ((ps_if hc ha hb).run pins s σ H { D with nx := J } I h) fun fl s' z => by
  cases fl with
  | next => obtain ⟨σ', H', I', q⟩ := z; exact ⟨σ', H', I', f _ _ q⟩
  | brk => exact z
  | cont => exact z
  | ret v => exact z⟩
end
end L2

set_option Elab.async false
set_option linter.all false
set_option maxRecDepth 100000
set_option maxHeartbeats 4000000
namespace Pl
open PySem PySem.Spec PyProof.Rows L2 RZ
/-! ### the empty tuple of a default -/
def tupB0 (K : PySem.W.Frag) (a : Addr) : Bool := match K.lookup a with
  | some ⟨.type c, _, .seq its _, _⟩ => decide (c = "tuple") && decide (its = #[])
  | _ => false
theorem tupB0_ok {K : PySem.W.Frag} {a : Addr} (h : tupB0 K a = true) (H : Hp) : SqT K H a [] := by
  unfold tupB0 at h
  cases q : K.lookup a with
  | none => rw [q] at h; cases h
  | some o =>
    obtain ⟨oc, od, dt, sl⟩ := o
    rw [q] at h
    cases oc with
    | type c =>
      cases dt with
      | seq its n =>
        have h' : (decide (c = "tuple") && decide (its = #[])) = true := h
        rw [Bool.and_eq_true] at h'
        obtain ⟨h1, h2⟩ := h'
        have e1 := of_decide_eq_true h1
        have e2 := of_decide_eq_true h2
        subst e1 e2
        exact .inr ⟨_, #[], n, q, rfl, rfl, Nat.zero_le _, .nil⟩
      | _ => cases h
    | _ => cases dt <;> cases h
/-! ### what stands still while the pen is used -/
def PenSh (o : HO) : Prop := ∃ c i x k, o = .lst [.ref c, .int i, .int x, .int k]
def Keep (H H' : Hp) : Prop := ∀ b o, H b = some o → ¬ PenSh o → H' b = some o
theorem keep_of {H H' : Hp} (s : Same H H') : Keep H H' := fun b o e _ => s b o e
theorem Keep.trans {H H1 H2 : Hp} (a : Keep H H1) (b : Keep H1 H2) : Keep H H2 := fun c o e n => b c o (a c o e n) n
theorem Keep.refl (H : Hp) : Keep H H := fun _ _ e _ => e
theorem Keep.seqT {K : PySem.W.Frag} {H H' : Hp} {a : Addr} {xs : List V} (e : Keep H H') (h : SqT K H a xs) : SqT K H' a xs := by
  rcases h with (h | ⟨o, h⟩) | h
  · exact .inl (.inl (e _ _ h (by rintro ⟨_, _, _, _, z⟩; cases z)))
  · exact .inl (.inr ⟨o, e _ _ h (by rintro ⟨_, _, _, _, z⟩; cases z)⟩)
  · exact .inr h
/-- a list that is no pen -/
def NoPen (xs : List V) : Prop := ∀ c i x k, xs ≠ [.ref c, .int i, .int x, .int k]
theorem noPen_ints (ns : List Int) : NoPen (ns.map V.int) := by
  intro c i x k e
  cases ns with
  | nil => cases e
  | cons a r => cases e
theorem noPen_refs (ns : List Addr) : NoPen (ns.map V.ref) := by
  intro c i x k e
  cases ns with
  | nil => cases e
  | cons a r =>
    cases r with
    | nil => cases e
    | cons b r => cases e
theorem Keep.lst {H H' : Hp} {a : Addr} {xs : List V} (e : Keep H H') (n : NoPen xs) (h : H a = some (.lst xs)) : H' a = some (.lst xs) := e _ _ h (by
  rintro ⟨c, i, x, k, z⟩
  injection z with z
  exact n c i x k z)
theorem Keep.seqL {K : PySem.W.Frag} {H H' : Hp} {a : Addr} {xs : List V} (e : Keep H H') (n : NoPen xs) (h : SqL K H a xs) : SqL K H' a xs := by
  rcases h with (h | ⟨o, h⟩) | h
  · exact .inl (.inl (e.lst n h))
  · exact .inl (.inr ⟨o, e _ _ h (by rintro ⟨_, _, _, _, z⟩; cases z)⟩)
  · exact .inr h
theorem Keep.ins {H H' : Hp} {a C dx : Addr} {fs : List (Str × V)} (e : Keep H H') (h : H a = some (.ins C dx fs)) : H' a = some (.ins C dx fs) := e _ _ h (by rintro ⟨_, _, _, _, z⟩; cases z)
theorem Keep.but {H H1 H2 : Hp} {l : Addr} (s : Keep H H1) (hl : H l = none) (b : SameBut l H1 H2) : Keep H H2 := fun c o e n => b c o (ne_of_none e hl) (s c o e n)
/-! ### the pen: a list of the numbers, the next one's place, the number that is drawn from, a count -/
def Pn (H : Hp) (pen c : Addr) (n : Nat) : Prop := ∃ (zs : List Int) (i x k : Int), H pen = some (.lst [.ref c, .int i, .int x, .int k]) ∧ H c = some (.lst (zs.map V.int)) ∧ zs.length ≤ 63 ∧ 1 ≤ i ∧ 0 ≤ k ∧ k ≤ (n : Int)
theorem Pn.mono {H : Hp} {pen c : Addr} {n m : Nat} (h : Pn H pen c n) (l : n ≤ m) : Pn H pen c m := by
  obtain ⟨zs, i, x, k, h1, h2, h3, h4, h5, h6⟩ := h
  exact ⟨zs, i, x, k, h1, h2, h3, h4, h5, by omega⟩
theorem Pn.same {H H' : Hp} {pen c : Addr} {n : Nat} (s : Same H H') (h : Pn H pen c n) : Pn H' pen c n := by
  obtain ⟨zs, i, x, k, h1, h2, h3⟩ := h
  exact ⟨zs, i, x, k, s _ _ h1, s _ _ h2, h3⟩
/-- D new behind H0, where the pen stood -/
theorem Pn.but {H0 H H' : Hp} {pen c D : Addr} {n m : Nat} (h0 : Pn H0 pen c m) (hD : H0 D = none) (b : SameBut D H H') (h : Pn H pen c n) : Pn H' pen c n := by
  obtain ⟨zs, i, x, k, h1, h2, h3⟩ := h
  obtain ⟨_, _, _, _, g1, g2, _⟩ := h0
  exact ⟨zs, i, x, k, b _ _ (ne_of_none g1 hD) h1, b _ _ (ne_of_none g2 hD) h2, h3⟩
/-! ### rows -/
def RowF (t : Addr) : List (Str × V) := [("entries", .ref t)]
def RowAt (K : PySem.W.Frag) (H : Hp) (p : Addr) (ns : List Int) : Prop := ∃ dx t, H p = some (.ins (He.ga K "Row") dx (RowF t)) ∧ SqT K H t (ns.map V.int)
theorem RowAt.same {K : PySem.W.Frag} {H H' : Hp} {p : Addr} {ns : List Int} (s : Same H H') (h : RowAt K H p ns) : RowAt K H' p ns := by
  obtain ⟨dx, t, h1, h2⟩ := h
  exact ⟨dx, t, s _ _ h1, s.seqT h2⟩
theorem RowAt.keep {K : PySem.W.Frag} {H H' : Hp} {p : Addr} {ns : List Int} (s : Keep H H') (h : RowAt K H p ns) : RowAt K H' p ns := by
  obtain ⟨dx, t, h1, h2⟩ := h
  exact ⟨dx, t, s.ins h1, s.seqT h2⟩
/-! ### without the zeros at the end -/
def stpN (xs : List Int) : Nat → Nat
  | 0 => 0
  | n + 1 => if xs.getD n 0 = 0 then stpN xs n else n + 1
def stp (xs : List Int) : List Int := xs.take (stpN xs xs.length)
theorem stpN_le (xs : List Int) : ∀ n, stpN xs n ≤ n
  | 0 => Nat.le_refl _
  | n + 1 => by
    unfold stpN
    split
    · exact Nat.le_succ_of_le (stpN_le xs n)
    · exact Nat.le_refl _
theorem stpN_zero (xs : List Int) : ∀ n i, stpN xs n ≤ i → i < n → xs.getD i 0 = 0
  | 0, i, _, h => absurd h (Nat.not_lt_zero _)
  | n + 1, i, h1, h2 => by
    unfold stpN at h1
    split at h1
    · rename_i z
      by_cases e : i = n
      · rw [e]; exact z
      · exact stpN_zero xs n i h1 (by omega)
    · omega
theorem stp_length (xs : List Int) : (stp xs).length ≤ xs.length := by
  unfold stp
  rw [List.length_take]
  exact Nat.min_le_right _ _
theorem stp_get (xs : List Int) (i : Nat) : (stp xs).getD i 0 = xs.getD i 0 := by
  unfold stp
  by_cases h : i < stpN xs xs.length
  · rw [List.getD_eq_getElem?_getD, List.getD_eq_getElem?_getD, List.getElem?_take, if_pos h]
  · have e : (xs.take (stpN xs xs.length)).getD i 0 = 0 := by
      rw [List.getD_eq_getElem?_getD, List.getElem?_take, if_neg h] <;> rfl
    rw [e]
    by_cases h2 : i < xs.length
    · exact (stpN_zero xs _ i (by omega) h2).symm
    · rw [List.getD_eq_getElem?_getD, List.getElem?_eq_none (by omega)] <;> rfl
/-! ### carries -/
/-- the carry into lane n: (entry + carry) / B, from 0 on -/
def car (xs : List Int) (w : Nat) : Nat → Int
  | 0 => 0
  | n + 1 => (xs.getD n 0 + car xs w n) / 2 ^ w
theorem car_congr {xs ys : List Int} (w : Nat) (h : ∀ i, xs.getD i 0 = ys.getD i 0) : ∀ n, car xs w n = car ys w n
  | 0 => rfl
  | n + 1 => by
    unfold car
    rw [h n, car_congr w h n]
theorem car_stp (xs : List Int) (w n : Nat) : car (stp xs) w n = car xs w n := car_congr w (stp_get xs) n
theorem car_far (xs : List Int) (w n : Nat) : ∀ m, xs.length ≤ n → car xs w (n + m) = car xs w n / 2 ^ (w * m)
  | 0, _ => by
    rw [Nat.mul_zero]
    show car xs w n = car xs w n / 1
    omega
  | m + 1, h => by
    have ih := car_far xs w n m h
    show (xs.getD (n + m) 0 + car xs w (n + m)) / 2 ^ w = _
    have e : xs.getD (n + m) 0 = 0 := by
      rw [List.getD_eq_getElem?_getD, List.getElem?_eq_none (by omega)] <;> rfl
    have hp : (0 : Int) < 2 ^ (w * m) := Int.pow_pos (by decide)
    rw [e, ih, Int.zero_add, Int.ediv_ediv, if_neg (fun z => by omega), Int.sub_zero, ← Int.pow_add, Nat.mul_succ]
theorem rowF_look (t : Addr) : (RowF t).lookup ("entries" : Str) = some (.ref t) := by simp [RowF, List.lookup]
theorem stpN_stop {xs : List Int} {k : Nat} (h : k = 0 ∨ xs.getD (k - 1) 0 ≠ 0) : stpN xs k = k := by
  cases k with
  | zero => rfl
  | succ n =>
    have h2 : xs.getD n 0 ≠ 0 := h.resolve_left (by omega)
    unfold stpN
    rw [if_neg h2]
/-! ### items, slices -/
theorem map_get {xs : List Int} {i : Nat} {x : V} (h : (xs.map V.int)[i]? = some x) : ∃ u, xs[i]? = some u ∧ x = .int u := by
  rw [List.getElem?_map] at h
  cases e : xs[i]? with
  | none => rw [e] at h; cases h
  | some u => rw [e] at h; exact ⟨u, rfl, (Option.some.inj h).symm⟩
theorem map_getR {xs : List Addr} {i : Nat} {x : V} (h : (xs.map V.ref)[i]? = some x) : ∃ u, xs[i]? = some u ∧ x = .ref u := by
  rw [List.getElem?_map] at h
  cases e : xs[i]? with
  | none => rw [e] at h; cases h
  | some u => rw [e] at h; exact ⟨u, rfl, (Option.some.inj h).symm⟩
theorem at_ints {xs : List Int} {z : Int} {n : Nat} (e : z = (n : Int)) (h : n < xs.length) : atI (xs.map V.int) z = some (.int (xs.getD n 0)) := by
  refine at_of e ?_
  rw [List.getElem?_map, List.getD_eq_getElem?_getD, List.getElem?_eq_getElem h] <;> rfl
theorem cut_to (xs : List V) (k : Nat) : cutV xs none (some (k : Int)) = xs.take k := by
  unfold cutV
  rw [HT.sIx_nat, HT.sIx_none, List.drop_zero, Nat.sub_zero]
  by_cases h : k ≤ xs.length
  · rw [Nat.min_eq_left h]
  · rw [Nat.min_eq_right (by omega), List.take_of_length_le (Nat.le_refl _), List.take_of_length_le (by omega)]
theorem cut_from (xs : List V) (k : Nat) : cutV xs (some (k : Int)) none = xs.drop k := by
  unfold cutV
  rw [HT.sIx_nat, HT.sIx_none]
  by_cases h : k ≤ xs.length
  · rw [Nat.min_eq_left h, List.take_of_length_le (by rw [List.length_drop]; omega)]
  · rw [Nat.min_eq_right (by omega), Nat.sub_self, List.take_zero, List.drop_of_length_le (by omega)]
theorem iteB {c : Prop} [Decidable c] {A B : Prop} (h1 : c → A) (h2 : ¬ c → B) : if decide c = true then A else B := by
  by_cases h : c
  · rw [decide_eq_true h, if_pos rfl]
    exact h1 h
  · rw [decide_eq_false h, if_neg Bool.false_ne_true]
    exact h2 h
/-! ### sums of rows -/
def addL (xs ys : List Int) : List Int := List.zipWith (· + ·) xs ys ++ xs.drop ys.length ++ ys.drop xs.length
theorem addL_length (xs ys : List Int) : (addL xs ys).length = max xs.length ys.length := by
  unfold addL
  rw [List.length_append, List.length_append, List.length_zipWith, List.length_drop, List.length_drop]
  omega
theorem addL_get (xs ys : List Int) (i : Nat) : (addL xs ys).getD i 0 = xs.getD i 0 + ys.getD i 0 := by
  unfold addL
  simp only [List.getD_eq_getElem?_getD]
  by_cases h1 : i < xs.length <;> by_cases h2 : i < ys.length
  · rw [List.append_assoc, List.getElem?_append_left (by rw [List.length_zipWith]; omega), List.getElem?_zipWith, List.getElem?_eq_getElem h1, List.getElem?_eq_getElem h2] <;> rfl
  · rw [List.append_assoc, List.getElem?_append_right (by rw [List.length_zipWith]; omega), List.length_zipWith, List.getElem?_append_left (by rw [List.length_drop]; omega), List.getElem?_drop,
      show ys.length + (i - min xs.length ys.length) = i by omega, List.getElem?_eq_getElem h1, List.getElem?_eq_none (show ys.length ≤ i by omega)]
    show _ = _ + 0
    rw [Int.add_zero]
  · rw [List.getElem?_append_right (by rw [List.length_append, List.length_zipWith, List.length_drop]; omega), List.length_append, List.length_zipWith, List.length_drop, List.getElem?_drop,
      show xs.length + (i - (min xs.length ys.length + (xs.length - ys.length))) = i by omega, List.getElem?_eq_getElem h2, List.getElem?_eq_none (show xs.length ≤ i by omega)]
    show _ = 0 + _
    rw [Int.zero_add]
  · rw [List.getElem?_eq_none (by rw [List.length_append, List.length_append, List.length_zipWith, List.length_drop, List.length_drop]; omega), List.getElem?_eq_none (show xs.length ≤ i by omega), List.getElem?_eq_none (show ys.length ≤ i by omega)] <;> rfl
theorem take_snoc {α : Type} {l : List α} {i : Nat} {x : α} (h : l[i]? = some x) : l.take (i + 1) = l.take i ++ [x] := by
  rw [List.take_add_one, h] <;> rfl
theorem small {n : Nat} (h : n ≤ 1000000) : n ≤ sizeLine := Nat.le_of_lt (len_big h)
theorem yesT {σ : L2.St} {H : Hp} {F G : Hp → Prop} (h : F H) : tYes σ H (fun b H3 => if b = true then F H3 else G H3) := by
  show (if true = true then F H else G H)
  rw [if_pos rfl]
  exact h
theorem rep0 (n : Nat) : (List.replicate n [V.int 0]).flatten = (List.replicate n (0 : Int)).map V.int := by
  rw [List.map_replicate]
  induction n with
  | zero => rfl
  | succ k ih =>
    rw [List.replicate_succ, List.replicate_succ, List.flatten_cons, ih]
    rfl
/-! ### comparisons of rows of ints -/
theorem dpAll_ints {K : PySem.W.Frag} {H : Hp} : ∀ ns : List Int, DpAll K H (ns.map V.int) (ns.map PyData.int)
  | [] => .nil
  | a :: r => .cons (.int a) (dpAll_ints r)
theorem dp_list {K : PySem.W.Frag} {H : Hp} {a : Addr} {ns : List Int} (h : SqL K H a (ns.map V.int)) : Dp K H (.ref a) (.list (ns.map PyData.int)) := .lst h (dpAll_ints ns)
theorem dp_tup {K : PySem.W.Frag} {H : Hp} {a : Addr} {ns : List Int} (h : SqT K H a (ns.map V.int)) : Dp K H (.ref a) (.tuple (ns.map PyData.int)) := .tup h (dpAll_ints ns)
theorem sh_list (ns : List Int) : SeqAt.shaped (.list (ns.map PyData.int)) = true := PySem.W.ke_shaped_ints ns
theorem sh_tup (ns : List Int) : SeqAt.shaped (.tuple (ns.map PyData.int)) = true := by
  have h := PySem.W.ke_shaped_ints ns
  unfold SeqAt.shaped at h ⊢
  simpa [PyData.canLay0, PyData.depth] using h
theorem eqv_list (ns ms : List Int) : PyData.eqv (.list (ns.map PyData.int)) (.list (ms.map PyData.int)) = decide (ns = ms) := by
  simp only [PyData.eqv]
  exact PySem.W.ked_eqvAll ns ms
theorem eqv_tup (ns ms : List Int) : PyData.eqv (.tuple (ns.map PyData.int)) (.tuple (ms.map PyData.int)) = decide (ns = ms) := by
  simp only [PyData.eqv]
  exact PySem.W.ked_eqvAll ns ms
/-! ### several rows at once -/
def LsAt (R : Addr → List Int → Prop) (as : List Addr) (xss : List (List Int)) : Prop := as.length = xss.length ∧ ∀ (i : Nat) (a : Addr) (xs : List Int), as[i]? = some a → xss[i]? = some xs → R a xs
theorem LsAt.nil {R : Addr → List Int → Prop} : LsAt R [] [] := ⟨rfl, fun i a xs h => by simp at h⟩
theorem LsAt.snoc {R : Addr → List Int → Prop} {as : List Addr} {xss : List (List Int)} {a : Addr} {xs : List Int} (h : LsAt R as xss) (r : R a xs) : LsAt R (as ++ [a]) (xss ++ [xs]) := by
  refine ⟨by rw [List.length_append, List.length_append, h.1] <;> rfl, fun i b ys e1 e2 => ?_⟩
  by_cases l : i < as.length
  · rw [List.getElem?_append_left l] at e1
    rw [List.getElem?_append_left (by rw [← h.1]; exact l)] at e2
    exact h.2 i b ys e1 e2
  · rw [List.getElem?_append_right (by omega)] at e1
    rw [List.getElem?_append_right (by rw [← h.1]; omega), ← h.1] at e2
    cases q : i - as.length with
    | zero =>
      rw [q] at e1 e2
      cases e1
      cases e2
      exact r
    | succ k =>
      rw [q] at e1
      simp at e1
theorem LsAt.mono {R R' : Addr → List Int → Prop} {as : List Addr} {xss : List (List Int)} (h : LsAt R as xss) (f : ∀ a xs, R a xs → R' a xs) : LsAt R' as xss := ⟨h.1, fun i a xs e1 e2 => f a xs (h.2 i a xs e1 e2)⟩
theorem LsAt.get {R : Addr → List Int → Prop} {as : List Addr} {xss : List (List Int)} {i : Nat} {a : Addr} (h : LsAt R as xss) (e : as[i]? = some a) : ∃ xs, xss[i]? = some xs ∧ R a xs := by
  have l : i < xss.length := by
    rw [← h.1]
    exact (List.getElem?_eq_some_iff.mp e).1
  exact ⟨xss[i], List.getElem?_eq_getElem l, h.2 i a _ e (List.getElem?_eq_getElem l)⟩
theorem at_mem {α : Type} {l : List α} {d : Int} (h0 : 0 ≤ d) (h1 : d < l.length) : ∃ v, atI l d = some v ∧ v ∈ l := by
  have h2 : d.toNat < l.length := by omega
  refine ⟨l[d.toNat], ?_, List.getElem_mem h2⟩
  unfold atI ixN
  rw [if_pos h0, if_pos h1]
  show l[d.toNat]? = _
  exact List.getElem?_eq_getElem h2
theorem at_refs {as : List Addr} {z : Int} {n : Nat} {u : Addr} (e : z = (n : Int)) (h : as[n]? = some u) : atI (as.map V.ref) z = some (.ref u) := by
  refine at_of e ?_
  rw [List.getElem?_map, h] <;> rfl
theorem RowAt.but {K : PySem.W.Frag} {H H' : Hp} {p E : Addr} {ns : List Int} {l : List V} (h : RowAt K H p ns) (hE : H E = some (.lst l)) (b : SameBut E H H') : RowAt K H' p ns := by
  obtain ⟨dx, t, h1, h2⟩ := h
  refine ⟨dx, t, b _ _ (ne_of h1 hE (by intro z; cases z)) h1, ?_⟩
  rcases h2 with (h2 | ⟨o, h2⟩) | h2
  · exact .inl (.inl (b _ _ (ne_of h2 hE (by intro z; cases z)) h2))
  · exact .inl (.inr ⟨o, b _ _ (ne_of h2 hE (by intro z; cases z)) h2⟩)
  · exact .inr h2
theorem rowF_none (t : Addr) {m : Str} (h : (m == ("entries" : Str)) = false) : (RowF t).lookup m = none := by
  unfold RowF
  rw [List.lookup_cons, h]
  rfl
theorem LsAt.lens {R : Addr → List Int → Prop} {as : List Addr} {xss : List (List Int)} {k : Nat} (h : LsAt R as xss) (f : ∀ a xs, R a xs → xs.length ≤ k) {i : Nat} {xs : List Int} (e : xss[i]? = some xs) : xs.length ≤ k := by
  have l : i < as.length := by
    rw [h.1]
    exact (List.getElem?_eq_some_iff.mp e).1
  exact f _ _ (h.2 i _ xs (List.getElem?_eq_getElem l) e)
end Pl

set_option Elab.async false
set_option linter.all false
set_option maxRecDepth 100000
set_option maxHeartbeats 4000000
namespace Pl
/-! ### the number of a row -/
theorem pw (w : Nat) : (0 : Int) < 2 ^ w := Int.pow_pos (by decide)
def val : List Int → Nat → Int
  | [], _ => 0
  | x :: r, w => x + 2 ^ w * val r w
theorem val_append (w : Nat) : ∀ xs ys : List Int, val (xs ++ ys) w = val xs w + 2 ^ (w * xs.length) * val ys w
  | [], ys => by simp [val]
  | x :: r, ys => by
    show x + 2 ^ w * val (r ++ ys) w = x + 2 ^ w * val r w + 2 ^ (w * (r.length + 1)) * val ys w
    rw [val_append w r ys, Int.mul_add, Nat.mul_succ, Nat.add_comm (w * r.length) w, Int.pow_add, Int.mul_assoc, Int.add_assoc]
theorem val_zero (w : Nat) : ∀ n : Nat, val (List.replicate n 0) w = 0
  | 0 => rfl
  | n + 1 => by
    rw [List.replicate_succ]
    show 0 + 2 ^ w * val (List.replicate n 0) w = 0
    rw [val_zero w n, Int.mul_zero, Int.add_zero]
/-- equal lane by lane: one number -/
theorem val_congr (w : Nat) : ∀ (n : Nat) (xs ys : List Int), xs.length ≤ n → ys.length ≤ n → (∀ i, xs.getD i 0 = ys.getD i 0) → val xs w = val ys w
  | 0, xs, ys, h1, h2, _ => by
    rw [List.eq_nil_of_length_eq_zero (Nat.le_zero.mp h1), List.eq_nil_of_length_eq_zero (Nat.le_zero.mp h2)]
  | n + 1, xs, ys, h1, h2, h => by
    have key : ∀ zs : List Int, val zs w = zs.getD 0 0 + 2 ^ w * val zs.tail w := fun zs => by
      cases zs with
      | nil => simp [val]
      | cons a r => rfl
    rw [key xs, key ys, h 0, val_congr w n xs.tail ys.tail (by rw [List.length_tail]; omega) (by rw [List.length_tail]; omega) fun i => ?_]
    have e : ∀ zs : List Int, zs.tail.getD i 0 = zs.getD (i + 1) 0 := fun zs => by cases zs <;> simp
    rw [e, e]
    exact h (i + 1)
theorem val_stp (xs : List Int) (w : Nat) : val (stp xs) w = val xs w := val_congr w (xs.length) _ _ (stp_length xs) (Nat.le_refl _) (stp_get xs)
/-! ### neighbours joined in pairs -/
def comb (w : Nat) : List Int → List Int
  | a :: b :: r => (a + b * 2 ^ w) :: comb w r
  | xs => xs
theorem val_comb (w : Nat) : ∀ xs : List Int, xs.length % 2 = 0 → val (comb w xs) (w + w) = val xs w
  | [], _ => rfl
  | [a], h => by simp at h
  | a :: b :: r, h => by
    have ih := val_comb w r (by have h' : (r.length + 1 + 1) % 2 = 0 := h; omega)
    show a + b * 2 ^ w + 2 ^ (w + w) * val (comb w r) (w + w) = a + 2 ^ w * (b + 2 ^ w * val r w)
    rw [ih, Int.pow_add, Int.mul_add, Int.mul_comm b, Int.mul_assoc, Int.add_assoc]
theorem comb_length (w : Nat) : ∀ xs : List Int, xs.length % 2 = 0 → (comb w xs).length = xs.length / 2
  | [], _ => rfl
  | [a], h => by simp at h
  | a :: b :: r, h => by
    show (comb w r).length + 1 = (r.length + 2) / 2
    rw [comb_length w r (by have h' : (r.length + 1 + 1) % 2 = 0 := h; omega)]
    omega
def evens {α : Type} : List α → List α
  | a :: _ :: r => a :: evens r
  | xs => xs
def odds {α : Type} : List α → List α
  | _ :: b :: r => b :: odds r
  | _ => []
theorem comb_zip (w : Nat) : ∀ xs : List Int, xs.length % 2 = 0 → comb w xs = List.zipWith (fun a b => a + b * 2 ^ w) (evens xs) (odds xs)
  | [], _ => rfl
  | [a], h => by simp at h
  | a :: b :: r, h => by
    show _ :: comb w r = _ :: List.zipWith _ (evens r) (odds r)
    rw [comb_zip w r (by have h' : (r.length + 1 + 1) % 2 = 0 := h; omega)]
theorem evens_map {α β : Type} (f : α → β) : ∀ xs : List α, evens (xs.map f) = (evens xs).map f
  | [] => rfl
  | [a] => rfl
  | a :: b :: r => by
    show f a :: evens (r.map f) = f a :: (evens r).map f
    rw [evens_map f r]
theorem odds_map {α β : Type} (f : α → β) : ∀ xs : List α, odds (xs.map f) = (odds xs).map f
  | [] => rfl
  | [a] => rfl
  | a :: b :: r => by
    show f b :: odds (r.map f) = f b :: (odds r).map f
    rw [odds_map f r]
theorem evens_length {α : Type} : ∀ xs : List α, (evens xs).length = (xs.length + 1) / 2
  | [] => by simp [evens]
  | [a] => by simp [evens]
  | a :: b :: r => by
    show (evens r).length + 1 = (r.length + 2 + 1) / 2
    rw [evens_length r]
    omega
theorem odds_length {α : Type} : ∀ xs : List α, (odds xs).length = xs.length / 2
  | [] => by simp [odds]
  | [a] => by simp [odds]
  | a :: b :: r => by
    show (odds r).length + 1 = (r.length + 2) / 2
    rw [odds_length r]
    omega
theorem evens_get {α : Type} : ∀ (xs : List α) (i : Nat), (evens xs)[i]? = xs[2 * i]?
  | [], i => by simp [evens]
  | [a], i => by
    cases i with
    | zero => rfl
    | succ i =>
      show ([a] : List α)[i + 1]? = [a][2 * (i + 1)]?
      rw [List.getElem?_eq_none (by simp), List.getElem?_eq_none (by simp; omega)]
  | a :: b :: r, 0 => rfl
  | a :: b :: r, i + 1 => by
    show (evens r)[i]? = (a :: b :: r)[2 * i + 2]?
    rw [evens_get r i]
    rfl
theorem odds_get {α : Type} : ∀ (xs : List α) (i : Nat), (odds xs)[i]? = xs[2 * i + 1]?
  | [], i => by simp [odds]
  | [a], i => by simp [odds]
  | a :: b :: r, 0 => rfl
  | a :: b :: r, i + 1 => by
    show (odds r)[i]? = (a :: b :: r)[2 * i + 3]?
    rw [odds_get r i]
    rfl
/-! ### sizes -/
theorem natAbs_mul_pow (x : Int) (w : Nat) : (x * 2 ^ w).natAbs = x.natAbs * 2 ^ w := by
  rw [Int.natAbs_mul, Int.natAbs_pow]
  rfl
theorem small_comb {a b : Int} {m w : Nat} (hw : 1 ≤ w) (ha : a.natAbs < 2 ^ (m + 2 * w)) (hb : b.natAbs < 2 ^ (m + 2 * w)) : (a + b * 2 ^ w).natAbs < 2 ^ (m + 2 * (w + w)) := by
  have h1 : (a + b * 2 ^ w).natAbs ≤ a.natAbs + b.natAbs * 2 ^ w := by
    rw [← natAbs_mul_pow]
    exact Int.natAbs_add_le _ _
  have h2 : b.natAbs * 2 ^ w ≤ (2 ^ (m + 2 * w) - 1) * 2 ^ w := Nat.mul_le_mul_right _ (by omega)
  have e1 : 2 ^ (m + 2 * w) * 2 ^ w = 2 ^ (m + 3 * w) := by rw [← Nat.pow_add]; congr 1; omega
  have e2 : (2 ^ (m + 2 * w) - 1) * 2 ^ w = 2 ^ (m + 3 * w) - 2 ^ w := by rw [Nat.sub_mul, e1, Nat.one_mul]
  have h3 : 2 ^ (m + 2 * w) ≤ 2 ^ (m + 3 * w) := Nat.pow_le_pow_right (by decide) (by omega)
  have h4 : 2 * 2 ^ (m + 3 * w) ≤ 2 ^ (m + 2 * (w + w)) := by
    rw [show 2 * 2 ^ (m + 3 * w) = 2 ^ (m + 3 * w + 1) by rw [Nat.pow_succ]; omega]
    exact Nat.pow_le_pow_right (by decide) (by omega)
  have h5 : 0 < 2 ^ w := Nat.pow_pos (by decide)
  omega
theorem comb_small {m w : Nat} (hw : 1 ≤ w) : ∀ xs : List Int, (∀ x ∈ xs, x.natAbs < 2 ^ (m + 2 * w)) → ∀ x ∈ comb w xs, x.natAbs < 2 ^ (m + 2 * (w + w))
  | [], _, x, h => by simp [comb] at h
  | [a], hs, x, h => by
    have e : x = a := by simpa [comb] using h
    subst e
    exact Nat.lt_of_lt_of_le (hs x List.mem_cons_self) (Nat.pow_le_pow_right (by decide) (by omega))
  | a :: b :: r, hs, x, h => by
    have h' : x ∈ (a + b * 2 ^ w) :: comb w r := h
    rcases List.mem_cons.mp h' with e | e
    · subst e
      exact small_comb hw (hs a (by simp)) (hs b (by simp))
    · exact comb_small hw r (fun y hy => hs y (by simp [hy])) x e
theorem val_small {m w : Nat} : ∀ xs : List Int, (∀ x ∈ xs, x.natAbs < 2 ^ m) → (val xs w).natAbs < 2 ^ (m + (w + 1) * xs.length)
  | [], _ => by
    show 0 < _
    exact Nat.pow_pos (by decide)
  | x :: r, h => by
    have ih := val_small (w := w) r fun y hy => h y (List.mem_cons_of_mem _ hy)
    have hx := h x List.mem_cons_self
    have h1 : (val (x :: r) w).natAbs ≤ x.natAbs + (val r w).natAbs * 2 ^ w := by
      rw [← natAbs_mul_pow, Int.mul_comm]
      exact Int.natAbs_add_le _ _
    have h2 : (val r w).natAbs * 2 ^ w < 2 ^ (m + (w + 1) * r.length) * 2 ^ w := Nat.mul_lt_mul_of_pos_right ih (Nat.pow_pos (by decide))
    have e1 : 2 ^ (m + (w + 1) * r.length) * 2 ^ w = 2 ^ (m + (w + 1) * r.length + w) := by rw [← Nat.pow_add]
    have h3 : 2 ^ m ≤ 2 ^ (m + (w + 1) * r.length + w) := Nat.pow_le_pow_right (by decide) (by omega)
    have e2 : 2 ^ (m + (w + 1) * (x :: r).length) = 2 * 2 ^ (m + (w + 1) * r.length + w) := by
      rw [List.length_cons, Nat.mul_succ, ← Nat.add_assoc, ← Nat.add_assoc, Nat.pow_succ]
      omega
    rw [e2]
    omega
/-! ### digits from 0 up -/
def dig (n : Int) (w i : Nat) : Int := n / 2 ^ (w * i) % 2 ^ w
def digL (n : Int) (w c : Nat) : List Int := (List.range c).map (dig n w)
theorem digL_length (n : Int) (w c : Nat) : (digL n w c).length = c := by simp [digL]
theorem ediv_pow (n : Int) (a b : Nat) : n / 2 ^ a / 2 ^ b = n / 2 ^ (a + b) := by
  rw [Int.ediv_ediv, if_neg (fun z => by have := pw a; omega), Int.sub_zero, ← Int.pow_add]
theorem emod_low (n : Int) (a b : Nat) : n % 2 ^ (a + b) % 2 ^ a = n % 2 ^ a := Int.emod_emod_of_dvd n ⟨2 ^ b, by rw [Int.pow_add]⟩
theorem emod_high (n : Int) (a b : Nat) : n % 2 ^ (a + b) / 2 ^ a = n / 2 ^ a % 2 ^ b := by
  have ha := pw a
  have hb := pw b
  have d1 := Int.emod_add_mul_ediv n (2 ^ a)
  have d2 := Int.emod_add_mul_ediv (n / 2 ^ a) (2 ^ b)
  have d3 := Int.emod_add_mul_ediv n (2 ^ (a + b))
  have e : n / 2 ^ (a + b) = n / 2 ^ a / 2 ^ b := (ediv_pow n a b).symm
  have m0 := Int.emod_nonneg n (show (2 : Int) ^ a ≠ 0 by omega)
  have m1 := Int.emod_lt_of_pos n ha
  have key : n % 2 ^ (a + b) = n % 2 ^ a + 2 ^ a * (n / 2 ^ a % 2 ^ b) := by
    rw [e, Int.pow_add] at d3
    rw [Int.mul_assoc] at d3
    have : (2 : Int) ^ a * (n / 2 ^ a) = 2 ^ a * (n / 2 ^ a % 2 ^ b) + 2 ^ a * (2 ^ b * (n / 2 ^ a / 2 ^ b)) := by rw [← Int.mul_add, d2]
    rw [Int.pow_add]
    omega
  rw [key, Int.add_mul_ediv_left _ _ (show (2 : Int) ^ a ≠ 0 by omega), Int.ediv_eq_zero_of_lt m0 m1, Int.zero_add]
/-- the blocks of L lanes of the lowest m L lanes -/
def blocks (n : Int) (w L m : Nat) : List Int := (List.range m).map fun j => n / 2 ^ (w * (L * j)) % 2 ^ (w * L)
theorem blocks_one (n : Int) (w m : Nat) : blocks n w 1 m = digL n w m := by
  unfold blocks digL
  refine List.map_congr_left fun j _ => ?_
  rw [Nat.one_mul, Nat.mul_one]
  rfl
theorem block_low (n : Int) (w L j : Nat) : (n / 2 ^ (w * (2 * L * j)) % 2 ^ (w * (2 * L))) % 2 ^ (L * w) = n / 2 ^ (w * (L * (2 * j))) % 2 ^ (w * L) := by
  rw [show w * (2 * L) = L * w + L * w by rw [Nat.mul_comm w, Nat.mul_assoc, Nat.two_mul], emod_low, Nat.mul_comm L w, show 2 * L * j = L * (2 * j) by rw [Nat.mul_comm 2 L, Nat.mul_assoc]]
theorem block_high (n : Int) (w L j : Nat) : (n / 2 ^ (w * (2 * L * j)) % 2 ^ (w * (2 * L))) / 2 ^ (L * w) = n / 2 ^ (w * (L * (2 * j + 1))) % 2 ^ (w * L) := by
  rw [show w * (2 * L) = L * w + L * w by rw [Nat.mul_comm w, Nat.mul_assoc, Nat.two_mul], emod_high, ediv_pow, Nat.mul_comm L w, show w * (2 * L * j) + w * L = w * (L * (2 * j + 1)) by rw [← Nat.mul_add, Nat.mul_add L, Nat.mul_one, Nat.mul_comm 2 L, Nat.mul_assoc]]
theorem digL_take (n : Int) (w : Nat) {c d : Nat} (h : c ≤ d) : (digL n w d).take c = digL n w c := by
  unfold digL
  rw [← List.map_take, List.take_range, Nat.min_eq_left h]
end Pl

set_option Elab.async false
set_option linter.all false
set_option maxRecDepth 100000
set_option maxHeartbeats 4000000
namespace L2
open PySem PySem.Spec PyProof.Rows RZ
/-! ### xs[lo::k], k written -/
def pickV (xs : List V) (lo : Option Int) (k : Int) : List V := (sliceRange (sliceBounds lo none (some k) xs.length).1 (sliceBounds lo none (some k) xs.length).2.1 (sliceBounds lo none (some k) xs.length).2.2).filterMap (xs[·]?)
theorem vals_pick {xs : List V} {its : List Value} (r : Vals xs its) : ∀ ids : List Nat, Vals (ids.filterMap (xs[·]?)) (ids.filterMap (its[·]?))
  | [] => .nil
  | i :: ids => by
    have ih := vals_pick r ids
    cases e : xs[i]? with
    | none =>
      have e2 := Vals.none_of r e
      rw [List.filterMap_cons_none e, List.filterMap_cons_none e2]
      exact ih
    | some x =>
      obtain ⟨u, e2, ru⟩ := r.get e
      rw [List.filterMap_cons_some e, List.filterMap_cons_some e2]
      exact .cons ru ih
section
variable {X : Cx} {K : PySem.W.Frag}
def tSlStep (K : PySem.W.Frag) (te : TE) (tl : TO) (k : Int) : TE := fun σ H Q => te σ H fun x H1 => tl σ H1 fun lo H2 => ∃ a xs, x = .ref a ∧ SqL K H2 a xs ∧ NewL (pickV xs lo k) H2 Q
theorem PO.upO {o : Option Expr} {t : TO} (h : PO X o t) : PO X o (fun σ H Q => ∃ Q0 : Option Int → Hp → Prop, t σ H Q0 ∧ ∀ i H, Q0 i H → Q i H) :=
  ⟨fun pins s σ H Q I ⟨Q0, q, f⟩ => thn (h.run pins s σ H Q0 I q) fun v s1 ⟨i, H1, I1, r1, q1⟩ => ⟨i, H1, I1, r1, f _ _ q1⟩⟩
theorem pe_slStep {e : Expr} {lo : Option Expr} {te : TE} {tl : TO} {j : Int} {k : Nat} {p1 p3 pos : Pos} (he : PE X e te) (hl : PO X lo tl) (hj : j ≠ 0) (hK : X.K = K := by rfl) :
    PE X (.Subscript e (.Slice lo none (some (.Constant (.int j) k p1)) p3) pos) (tSlStep K te tl j) := by
  subst hK
  refine ⟨fun pins s σ H Q I h => ?_⟩
  refine Subscript_ (thn (he.run pins s σ H _ I h) fun v s1 ⟨x, H1, I1, r1, q1⟩ => ?_)
  have hst : PO X (some (.Constant (.int j) k p1)) (tPart (tC (.int j))) := po_some pe_int
  refine wpAny_Slice (thn (hl.run pins s1 σ H1 _ I1 q1) fun vl s2 ⟨l, H2, I2, pl, q2⟩ => ?_)
  obtain ⟨a, xs, ex, hx, q⟩ := q2
  subst ex
  cases r1
  refine thn (po_none.run pins s2 σ H2 (fun o H3 => o = none ∧ H3 = H2) I2 ⟨rfl, rfl⟩) fun vu s3 ⟨u, H3, I3, pu, eu, e3⟩ => ?_
  subst eu e3
  refine thn (hst.run pins s3 σ H3 (fun o H4 => o = some j ∧ H4 = H3) I3 ⟨j, rfl, rfl, rfl⟩) fun vs s4 ⟨o, H4, I4, ps, eo, e4⟩ => ?_
  subst eo e4
  have I5 : Inv X pins σ H4 { s4 with heap := s4.heap.push { cls := .type "slice", data := .fields #[vl, vu, vs] } } := I4.kept (t' := s4.toks) fun b ob q => Heap.get?_push_of_some _ q
  obtain ⟨its, r, ht, hz⟩ := I5.list hx
  have hlen := r.length
  show wpAny (model X.prog X.w) X.A (subscriptTail e (.Slice lo none (some (.Constant (.int j) k p1)) p3) (.ref a) (.ref s4.heap.objs.size)) (EP X pins σ Q) X.xe { s4 with heap := s4.heap.push { cls := .type "slice", data := .fields #[vl, vu, vs] } }
  refine tail_any (ops := [.ref a, .ref s4.heap.objs.size]) ht.isList.typeIs (PySem.slot_list_getitem.lookup) ?_ (by with_unfolding_all rfl)
  refine wpAny_getItem_list_slice ht.isList (Heap.IsSliceOf.new _ vl vu vs) pl pu ps (by simpa using hj) ?_ (by rw [List.size_toArray]; omega)
  have e : slicePick its.toArray l none (some j) = ((sliceRange (sliceBounds l none (some j) xs.length).1 (sliceBounds l none (some j) xs.length).2.1 (sliceBounds l none (some j) xs.length).2.2).filterMap (its[·]?)).toArray := by
    unfold slicePick
    rw [List.size_toArray, ← hlen]
    simp
  have hle : (slicePick its.toArray l none (some j)).size ≤ its.toArray.size := slicePick_size_le _ _ _ _
  rw [e] at hle ⊢
  have vp := vals_pick r (sliceRange (sliceBounds l none (some j) xs.length).1 (sliceBounds l none (some j) xs.length).2.1 (sliceBounds l none (some j) xs.length).2.2)
  refine ⟨.ref _, _, I5.laid (t' := s4.toks) (o := .lst (pickV xs l j)) (fun b ob q => Heap.get?_push_of_some _ q) (Nat.le_refl _) ?_, rfl, q.go _ (I5.hok.fresh (Nat.le_refl _))⟩
  refine ⟨?_, _, 0, vp, Heap.get?_push_size _ rfl⟩
  have h2 : (pickV xs l j).length = _ := vp.length
  rw [h2]
  rw [List.size_toArray, List.size_toArray] at hle
  omega
end
theorem filterMap_all {α : Type} (f : Nat → Option α) : ∀ (c : Nat), (∀ i, i < c → (f i).isSome = true) → ((List.range c).filterMap f).length = c ∧ ∀ i, ((List.range c).filterMap f)[i]? = if i < c then f i else none
  | 0, _ => ⟨rfl, fun i => by simp⟩
  | c + 1, h => by
    obtain ⟨l, g⟩ := filterMap_all f c fun i hi => h i (by omega)
    obtain ⟨x, hx⟩ := Option.isSome_iff_exists.mp (h c (by omega))
    rw [List.range_succ, List.filterMap_append, List.filterMap_cons_some hx, List.filterMap_nil]
    refine ⟨by rw [List.length_append, l]; rfl, fun i => ?_⟩
    by_cases hi : i < c
    · rw [List.getElem?_append_left (by omega), g i, if_pos hi, if_pos (by omega)]
    · rw [List.getElem?_append_right (by omega), l]
      by_cases he : i = c
      · subst he
        rw [Nat.sub_self, if_pos (by omega), hx]
        rfl
      · rw [if_neg (by omega), List.getElem?_eq_none (by simp; omega)]
theorem pick_by (xs : List V) (f : Nat → Nat) (c : Nat) (h : ∀ i, i < c → f i < xs.length) : ∀ i : Nat, (((List.range c).map f).filterMap (xs[·]?))[i]? = if i < c then xs[f i]? else none := fun i => by
  rw [List.filterMap_map]
  exact (filterMap_all (fun i => xs[f i]?) c fun i hi => by simp [h i hi]).2 i
theorem pick_evens (xs : List V) : pickV xs none 2 = Pl.evens xs := by
  have e : pickV xs none 2 = ((List.range ((xs.length + 1) / 2)).map fun i => 2 * i).filterMap (xs[·]?) := by
    unfold pickV sliceBounds sliceRange
    simp only [Option.getD_some, Option.getD_none, show (2 : Int) > 0 by decide, if_true]
    congr 1
    cases hn : xs.length with
    | zero => simp
    | succ n =>
      rw [if_pos (by omega)]
      congr 1
      · funext i
        omega
      · congr 1
        omega
  rw [e]
  refine List.ext_getElem? fun i => ?_
  rw [pick_by xs (fun i => 2 * i) _ (fun i hi => by omega), Pl.evens_get]
  split
  · rfl
  · rw [List.getElem?_eq_none (by omega)]
theorem pick_odds (xs : List V) : pickV xs (some 1) 2 = Pl.odds xs := by
  have e : pickV xs (some 1) 2 = ((List.range (xs.length / 2)).map fun i => 2 * i + 1).filterMap (xs[·]?) := by
    unfold pickV sliceBounds sliceRange
    simp only [Option.getD_some, Option.getD_none, show (2 : Int) > 0 by decide, if_true]
    congr 1
    cases hn : xs.length with
    | zero =>
      simp <;> decide
    | succ n =>
      have e1 : max (0 : Int) (min (if (1 : Int) < 0 then 1 + ((n + 1 : Nat) : Int) else 1) ((n + 1 : Nat) : Int)) = 1 := by
        rw [if_neg (by decide)]
        omega
      rw [e1]
      congr 1
      · funext i
        omega
      · congr 1
        split <;> omega
  rw [e]
  refine List.ext_getElem? fun i => ?_
  rw [pick_by xs (fun i => 2 * i + 1) _ (fun i hi => by omega), Pl.odds_get]
  split
  · rfl
  · rw [List.getElem?_eq_none (by omega)]
/-! ### zip of two lists -/
section
variable {K : PySem.W.Frag} {g : TG} {tt : TT} {te : TE} {vs : List Nat} {σ : L2.St} {H1 : Hp} {D a : Addr} {xs ys : List V} {Qd : Hp → Prop}
theorem lcN_zipL {b : Addr} (I : Nat → List V → Hp → Prop) (h0 : I 0 [] H1) (hl : ∀ i acc H, i ≤ min xs.length ys.length → I i acc H → H D = some (.lst acc) → SqL K H a xs ∧ SqL K H b ys)
    (hs : ∀ i x y acc H H2 T, xs[i]? = some x → ys[i]? = some y → I i acc H → H D = some (.lst acc) → Same H H2 → SqT K H2 T [x, y] → g (.ref T) (wipe σ vs) H2 fun σ2 H2 => wipe σ2 vs = wipe σ vs ∧ tt σ2 H2 fun b H3 =>
      if b = true then te σ2 H3 fun y H4 => H4 D = some (.lst acc) ∧ acc.length < sizeLine ∧ ∀ H5, SameBut D H4 H5 → H5 D = some (.lst (acc ++ [y])) → I (i + 1) (acc ++ [y]) H5 else H3 D = some (.lst acc) ∧ I (i + 1) acc H3)
    (hd : ∀ acc H, I (min xs.length ys.length) acc H → H D = some (.lst acc) → Qd H) : LcGoal (Itz K a b) g tt te vs σ H1 D Qd := by
  refine ⟨fun i m acc H => m = min xs.length ys.length - i ∧ i ≤ min xs.length ys.length ∧ I i acc H, ⟨min xs.length ys.length, by simp, Nat.zero_le _, h0⟩, ?_⟩
  rintro i m acc H ⟨rfl, hi, p⟩ eD
  obtain ⟨q, q'⟩ := hl i acc H hi p eD
  by_cases hlt : i < min xs.length ys.length
  · have h1 : i < xs.length := by omega
    have h2 : i < ys.length := by omega
    refine .inr ⟨⟨xs, ys, xs[i], ys[i], q, q', by simp [h1], by simp [h2]⟩, I (i + 1), fun acc' H' p' => ⟨min xs.length ys.length - (i + 1), by omega, rfl, hlt, p'⟩, fun x H' y => ?_⟩
    obtain ⟨T, x1, x2, rfl, nT, rfl, f1, f2⟩ := y
    exact hs i x1 x2 acc H _ T (f1 _ q) (f2 _ q') p eD (same_upd nT) (.inl (.inl upd_same))
  · have e : i = min xs.length ys.length := by omega
    subst e
    refine .inl ⟨⟨xs, ys, q, q', by omega⟩, hd acc H p eD⟩
end
/-! ### [e for a in xs for b in ys] -/
/-- what the inner walk's reading asks: Nx behind it -/
def InGoal (J1 : It) (g1 : TG) (tt1 : TT) (te : TE) (vs1 : List Nat) (σ2 : L2.St) (H4 : Hp) (D : Addr) (Nx : List V → Hp → Prop) : Prop := ∃ W1 : Nat → Nat → List V → Hp → Prop, (∃ m acc, H4 D = some (.lst acc) ∧ W1 0 m acc H4) ∧ ∀ j k acc H, W1 j k acc H → H D = some (.lst acc) →
  (J1.stop j H ∧ Nx acc H) ∨ (J1.go j H ∧ ∃ Nx1 : List V → Hp → Prop, (∀ acc' H', Nx1 acc' H' → ∃ k', k' < k ∧ W1 (j + 1) k' acc' H') ∧ ∀ x H', J1.yld j H x H' → g1 x (wipe σ2 vs1) H' fun σ3 H5 => wipe σ3 vs1 = wipe σ2 vs1 ∧ tt1 σ3 H5 fun b H6 =>
    if b = true then te σ3 H6 fun y H7 => H7 D = some (.lst acc) ∧ acc.length < sizeLine ∧ ∀ H8, SameBut D H7 H8 → H8 D = some (.lst (acc ++ [y])) → Nx1 (acc ++ [y]) H8 else H6 D = some (.lst acc) ∧ Nx1 acc H6)
def tLc2N (wi : TI) (g : TG) (tt : TT) (wi1 : TI) (g1 : TG) (tt1 : TT) (te : TE) (vs vs1 : List Nat) : TE := fun σ H Q => wi σ H fun J H1 => ∀ D H1', H1 D = none → Same H1 H1' → H1' D = some (.lst []) → ∃ W : Nat → Nat → List V → Hp → Prop, (∃ m, W 0 m [] H1') ∧ ∀ i m acc H, W i m acc H → H D = some (.lst acc) →
  (J.stop i H ∧ Q (.ref D) H) ∨ (J.go i H ∧ ∃ Nx : List V → Hp → Prop, (∀ acc' H', Nx acc' H' → ∃ m', m' < m ∧ W (i + 1) m' acc' H') ∧ ∀ x H', J.yld i H x H' → g x (wipe σ vs) H' fun σ2 H2 => wipe σ2 vs = wipe σ vs ∧ tt σ2 H2 fun b H3 =>
    if b = true then wi1 σ2 H3 fun J1 H4 => InGoal J1 g1 tt1 te vs1 σ2 H4 D Nx else H3 D = some (.lst acc) ∧ Nx acc H3)
theorem lc2_of {wi wi1 : TI} {g g1 : TG} {tt tt1 : TT} {te : TE} {vs vs1 : List Nat} {σ : L2.St} {H : Hp} {Q : VK} (h : tLc2N wi g tt wi1 g1 tt1 te vs vs1 σ H Q) : tLc2 (upI wi) (upG g) (upT tt) (upI wi1) (upG g1) (upT tt1) (upE te) vs vs1 σ H Q := by
  refine ⟨_, h, fun J H1 q D hD => ?_⟩
  obtain ⟨W, ⟨m, w0⟩, step⟩ := q D _ hD (same_upd hD) upd_same
  refine ⟨fun i m H => ∃ acc, H D = some (.lst acc) ∧ W i m acc H, ⟨m, [], upd_same, w0⟩, ?_⟩
  rintro i m H ⟨acc, eD, w⟩
  rcases step i m acc H w eD with z | ⟨go, Nx, hN, z⟩
  · exact .inl z
  · refine .inr ⟨go, fun H' => ∃ acc, H' D = some (.lst acc) ∧ Nx acc H', ?_, fun x H' y => ⟨_, z x H' y, fun σ2 H2 q2 => ⟨q2.1, _, q2.2, fun b H3 q3 => ?_⟩⟩⟩
    · rintro H' ⟨acc', e', n'⟩
      obtain ⟨m', lt, w'⟩ := hN acc' H' n'
      exact ⟨m', lt, acc', e', w'⟩
    · cases b with
      | true =>
        rw [if_pos rfl] at q3
        rw [if_pos rfl]
        refine ⟨_, q3, fun J1 H4 q4 => ?_⟩
        obtain ⟨W1, ⟨m1, acc1, e1, w1⟩, step1⟩ := q4
        refine ⟨fun i m H => ∃ acc, H D = some (.lst acc) ∧ W1 i m acc H, ⟨m1, acc1, e1, w1⟩, ?_⟩
        rintro j k H ⟨acc2, eD2, w2⟩
        rcases step1 j k acc2 H w2 eD2 with z2 | ⟨go2, Nx2, hN2, z2⟩
        · exact .inl ⟨z2.1, acc2, eD2, z2.2⟩
        · refine .inr ⟨go2, fun H' => ∃ acc, H' D = some (.lst acc) ∧ Nx2 acc H', ?_, fun x H' y => ⟨_, z2 x H' y, fun σ3 H5 q5 => ⟨q5.1, _, q5.2, fun b H6 q6 => ?_⟩⟩⟩
          · rintro H' ⟨acc', e', n'⟩
            obtain ⟨m', lt, w'⟩ := hN2 acc' H' n'
            exact ⟨m', lt, acc', e', w'⟩
          · cases b with
            | true =>
              rw [if_pos rfl] at q6
              rw [if_pos rfl]
              exact ⟨_, q6, fun y H7 ⟨e7, l7, q7⟩ => ⟨acc2, e7, l7, acc2 ++ [y], upd_same, q7 _ .of_upd upd_same⟩⟩
            | false =>
              rw [if_neg Bool.false_ne_true] at q6
              rw [if_neg Bool.false_ne_true]
              exact ⟨acc2, q6.1, q6.2⟩
      | false =>
        rw [if_neg Bool.false_ne_true] at q3
        rw [if_neg Bool.false_ne_true]
        exact ⟨acc, q3.1, q3.2⟩
section
variable {X : Cx}
theorem ps_setLc2N {i : Nat} {y : Str} {py : Pos} {elt tg iter tg1 iter1 : Expr} {ifs ifs1 : List Expr} {scope : Scope} {own : List (Str × Nat)} {vs1 : List Nat} {pos spos : Pos} {wi wi1 : TI} {g g1 : TG} {tt tt1 : TT} {te : TE} (hc : X.calm = true) (hN : X.N.Nodup) (hy : X.N[i]? = some y) (hyl : X.env.scope.names.lookup y = some .local)
    (hsw : swapsWith (.ListComp elt [⟨tg, iter, ifs, 0⟩, ⟨tg1, iter1, ifs1, 0⟩] scope pos) (some (.Name y py)) spos.line X.env = pure true) (hi : PI X tg iter wi) (ok : BlkOk X.N X.env.scope scope own) (hv : ∀ i ∈ vs1, i ∈ own.map (·.2))
    (hg : ∀ (s : Shared) (H : Hp) (C : Addr) (cl : List (Str × Addr)) (fp : List Addr), PG (X.blk s H scope (compEnvC scope cl C X.env) fp) tg g) (ht : ∀ (s : Shared) (H : Hp) (C : Addr) (cl : List (Str × Addr)) (fp : List Addr), PTs (X.blk s H scope (compEnvC scope cl C X.env) fp) ifs tt)
    (hi1 : ∀ (s : Shared) (H : Hp) (C : Addr) (cl : List (Str × Addr)) (fp : List Addr), PI (X.blk s H scope (compEnvC scope cl C X.env) fp) tg1 iter1 wi1)
    (hg1 : ∀ (s : Shared) (H : Hp) (C : Addr) (cl : List (Str × Addr)) (fp : List Addr), PG (X.blk s H scope (compEnvC scope cl C X.env) fp) tg1 g1) (ht1 : ∀ (s : Shared) (H : Hp) (C : Addr) (cl : List (Str × Addr)) (fp : List Addr), PTs (X.blk s H scope (compEnvC scope cl C X.env) fp) ifs1 tt1)
    (he : ∀ (s : Shared) (H : Hp) (C : Addr) (cl : List (Str × Addr)) (fp : List Addr), PE (X.blk s H scope (compEnvC scope cl C X.env) fp) elt te) (hs : ∀ x, foldedSetIterable iter X.env x = pure x := by intro _; rfl) (hs1 : ∀ env x, foldedSetIterable iter1 env x = pure x := by intro _ _; rfl) :
    PS X (.Assign [.Name y py] (.ListComp elt [⟨tg, iter, ifs, 0⟩, ⟨tg1, iter1, ifs1, 0⟩] scope pos) spos) (tAsg (tLc2N wi g tt wi1 g1 tt1 te (own.map (·.2)) vs1) (gName i)) :=
  (ps_setLc2 hc hN hy hyl hsw hi.up ok hv (fun s H C cl fp => (hg s H C cl fp).up) (fun s H C cl fp => (ht s H C cl fp).up) (fun s H C cl fp => (hi1 s H C cl fp).up) (fun s H C cl fp => (hg1 s H C cl fp).up) (fun s H C cl fp => (ht1 s H C cl fp).up) (fun s H C cl fp => (he s H C cl fp).up) hs hs1).imp fun D σ H q => lc2_of q
end
/-- an outer walk of a list -/
theorem lc2N_list {K : PySem.W.Frag} {g g1 : TG} {tt tt1 : TT} {te : TE} {wi1 : TI} {vs vs1 : List Nat} {σ : L2.St} {H1 : Hp} {D a : Addr} {xs : List V} {Qd : Hp → Prop} (I : Nat → List V → Hp → Prop) (h0 : I 0 [] H1) (hl : ∀ i acc H, i ≤ xs.length → I i acc H → H D = some (.lst acc) → SqL K H a xs)
    (hs : ∀ i x acc H, xs[i]? = some x → I i acc H → H D = some (.lst acc) → g x (wipe σ vs) H fun σ2 H2 => wipe σ2 vs = wipe σ vs ∧ tt σ2 H2 fun b H3 => if b = true then wi1 σ2 H3 fun J1 H4 => InGoal J1 g1 tt1 te vs1 σ2 H4 D (I (i + 1)) else H3 D = some (.lst acc) ∧ I (i + 1) acc H3)
    (hd : ∀ acc H, I xs.length acc H → H D = some (.lst acc) → Qd H) :
    ∃ W : Nat → Nat → List V → Hp → Prop, (∃ m, W 0 m [] H1) ∧ ∀ i m acc H, W i m acc H → H D = some (.lst acc) → ((Itl K a).stop i H ∧ Qd H) ∨ ((Itl K a).go i H ∧ ∃ Nx : List V → Hp → Prop, (∀ acc' H', Nx acc' H' → ∃ m', m' < m ∧ W (i + 1) m' acc' H') ∧ ∀ x H', (Itl K a).yld i H x H' → g x (wipe σ vs) H' fun σ2 H2 => wipe σ2 vs = wipe σ vs ∧ tt σ2 H2 fun b H3 =>
      if b = true then wi1 σ2 H3 fun J1 H4 => InGoal J1 g1 tt1 te vs1 σ2 H4 D Nx else H3 D = some (.lst acc) ∧ Nx acc H3) := by
  refine ⟨fun i m acc H => m = xs.length - i ∧ i ≤ xs.length ∧ I i acc H, ⟨xs.length, by simp, Nat.zero_le _, h0⟩, ?_⟩
  rintro i m acc H ⟨rfl, hi, p⟩ eD
  have q := hl i acc H hi p eD
  by_cases hlt : i < xs.length
  · refine .inr ⟨⟨xs, xs[i], q, by simp [hlt]⟩, I (i + 1), fun acc' H' p' => ⟨xs.length - (i + 1), by omega, rfl, hlt, p'⟩, fun x H' y => ?_⟩
    obtain ⟨e, y⟩ := y
    subst e
    exact hs i x acc _ (y xs q) p eD
  · have e : i = xs.length := by omega
    subst e
    exact .inl ⟨⟨xs, q, Nat.le_refl _⟩, hd acc H p eD⟩
/-- an inner walk of a tuple -/
theorem in_tup {K : PySem.W.Frag} {g1 : TG} {tt1 : TT} {te : TE} {vs1 : List Nat} {σ2 : L2.St} {H4 : Hp} {D a : Addr} {xs acc0 : List V} {Nx : List V → Hp → Prop} (I : Nat → List V → Hp → Prop) (hD : H4 D = some (.lst acc0)) (h0 : I 0 acc0 H4) (hl : ∀ i acc H, i ≤ xs.length → I i acc H → H D = some (.lst acc) → SqT K H a xs)
    (hs : ∀ i x acc H, xs[i]? = some x → I i acc H → H D = some (.lst acc) → g1 x (wipe σ2 vs1) H fun σ3 H5 => wipe σ3 vs1 = wipe σ2 vs1 ∧ tt1 σ3 H5 fun b H6 =>
      if b = true then te σ3 H6 fun y H7 => H7 D = some (.lst acc) ∧ acc.length < sizeLine ∧ ∀ H8, SameBut D H7 H8 → H8 D = some (.lst (acc ++ [y])) → I (i + 1) (acc ++ [y]) H8 else H6 D = some (.lst acc) ∧ I (i + 1) acc H6)
    (hd : ∀ acc H, I xs.length acc H → H D = some (.lst acc) → Nx acc H) : InGoal (Itt K a) g1 tt1 te vs1 σ2 H4 D Nx := by
  refine ⟨fun i m acc H => m = xs.length - i ∧ i ≤ xs.length ∧ I i acc H, ⟨xs.length, acc0, hD, by simp, Nat.zero_le _, h0⟩, ?_⟩
  rintro i m acc H ⟨rfl, hi, p⟩ eD
  have q := hl i acc H hi p eD
  by_cases hlt : i < xs.length
  · refine .inr ⟨⟨xs, xs[i], q, by simp [hlt]⟩, I (i + 1), fun acc' H' p' => ⟨xs.length - (i + 1), by omega, rfl, hlt, p'⟩, fun x H' y => ?_⟩
    obtain ⟨e, y⟩ := y
    subst e
    exact hs i x acc _ (y xs q) p eD
  · have e : i = xs.length := by omega
    subst e
    exact .inl ⟨⟨xs, q, Nat.le_refl _⟩, hd acc H p eD⟩
section
variable {X : Cx}
/-- a if c else b, where both ways meet -/
def tIfEJ (t : TT) (ta tb : TE) : TE := fun σ H Q => ∃ J : V → Hp → Prop, (t σ H fun c H1 => if c = true then ta σ H1 J else tb σ H1 J) ∧ ∀ v H', J v H' → Q v H'
theorem pe_ifExpJ {c a b : Expr} {pos : Pos} {tA : TT} {ta tb : TE} (hc : PT X c tA) (ha : PE X a ta) (hb : PE X b tb) : PE X (.IfExp c a b pos) (tIfEJ tA ta tb) := ⟨fun pins s σ H Q I ⟨J, h, f⟩ => thn ((pe_ifExp hc ha hb).run pins s σ H J I h) fun u s1 ⟨v, H1, I1, r, q⟩ => ⟨v, H1, I1, r, f _ _ q⟩⟩
end
end L2

set_option Elab.async false
set_option linter.all false
set_option maxRecDepth 100000
set_option maxHeartbeats 4000000
namespace Pl
open PySem
/-! ### the digits of a row's number -/
theorem drop_step (es : List Int) (w i : Nat) : val (es.drop i) w = es.getD i 0 + 2 ^ w * val (es.drop (i + 1)) w := by
  by_cases h : i < es.length
  · rw [List.drop_eq_getElem_cons h, List.getD_eq_getElem?_getD, List.getElem?_eq_getElem h]
    rfl
  · rw [List.drop_of_length_le (by omega), List.drop_of_length_le (by omega), List.getD_eq_getElem?_getD, List.getElem?_eq_none (by omega)]
    show (0 : Int) = 0 + 2 ^ w * 0
    rw [Int.mul_zero, Int.add_zero]
theorem val_div (es : List Int) (w : Nat) : ∀ i, val es w / 2 ^ (w * i) = car es w i + val (es.drop i) w
  | 0 => by
    rw [Nat.mul_zero, List.drop_zero]
    show val es w / 1 = 0 + _
    rw [Int.ediv_one, Int.zero_add]
  | i + 1 => by
    have hp := pw w
    rw [Nat.mul_succ, ← ediv_pow, val_div es w i, drop_step es w i]
    show _ = (es.getD i 0 + car es w i) / 2 ^ w + _
    rw [← Int.add_assoc, Int.add_mul_ediv_left _ _ (by omega), Int.add_comm (car es w i)]
theorem dig_val (es : List Int) (w i : Nat) : dig (val es w) w i = (es.getD i 0 + car es w i) % 2 ^ w := by
  unfold dig
  rw [val_div, drop_step, ← Int.add_assoc, Int.add_mul_emod_self_left, Int.add_comm (car es w i)]
/-- the first c entries -/
def ent (es : List Int) (c : Nat) : List Int := (List.range c).map fun i => es.getD i 0
theorem list_range_eq {f g : Nat → Int} {c : Nat} : (List.range c).map f = (List.range c).map g ↔ ∀ i, i < c → f i = g i := by
  constructor
  · intro h i hi
    have e := congrArg (fun l : List Int => l[i]?) h
    simpa [hi] using e
  · intro h
    exact List.map_congr_left fun i hi => h i (List.mem_range.mp hi)
theorem car_inside {es : List Int} {w c : Nat} (h : ∀ i, i < c → 0 ≤ es.getD i 0 ∧ es.getD i 0 < 2 ^ w) : ∀ i, i ≤ c → car es w i = 0
  | 0, _ => rfl
  | i + 1, hi => by
    show (es.getD i 0 + car es w i) / 2 ^ w = 0
    rw [car_inside h i (by omega), Int.add_zero]
    exact Int.ediv_eq_zero_of_lt (h i (by omega)).1 (h i (by omega)).2
theorem inside_car {es : List Int} {w c : Nat} (h : ∀ i, 1 ≤ i → i ≤ c → car es w i = 0) : ∀ i, i < c → 0 ≤ es.getD i 0 ∧ es.getD i 0 < 2 ^ w := by
  intro i hi
  have c0 : car es w i = 0 := by
    cases i with
    | zero => rfl
    | succ i => exact h (i + 1) (by omega) (by omega)
  have c1 := h (i + 1) (by omega) (by omega)
  have hp := pw w
  have e : (es.getD i 0 + car es w i) / 2 ^ w = 0 := c1
  rw [c0, Int.add_zero] at e
  have d := Int.emod_add_mul_ediv (es.getD i 0) (2 ^ w)
  have m0 := Int.emod_nonneg (es.getD i 0) (show (2 : Int) ^ w ≠ 0 by omega)
  have m1 := Int.emod_lt_of_pos (es.getD i 0) hp
  rw [e, Int.mul_zero, Int.add_zero] at d
  omega
theorem digits_iff (es : List Int) (w c : Nat) : digL (val es w) w c = ent es c ↔ ∀ i, i < c → 0 ≤ es.getD i 0 ∧ es.getD i 0 < 2 ^ w := by
  unfold digL ent
  rw [list_range_eq]
  constructor
  · intro h i hi
    have hp := pw w
    rw [← h i hi]
    exact ⟨Int.emod_nonneg _ (by omega), Int.emod_lt_of_pos _ hp⟩
  · intro h i hi
    rw [dig_val, car_inside h i (by omega), Int.add_zero]
    exact Int.emod_eq_of_lt (h i hi).1 (h i hi).2
/-! ### balanced digits -/
def rep (w c : Nat) : Int := val (List.replicate c (2 ^ (w - 1))) w
def balL (n : Int) (w c : Nat) : List Int := (digL (n + rep w c) w c).map fun d => d - 2 ^ (w - 1)
theorem balL_length (n : Int) (w c : Nat) : (balL n w c).length = c := by simp [balL, digL]
theorem val_addL (w : Nat) : ∀ xs ys : List Int, val (addL xs ys) w = val xs w + val ys w
  | [], ys => by
    have e : addL [] ys = ys := by simp [addL]
    rw [e]
    show _ = 0 + _
    rw [Int.zero_add]
  | x :: r, [] => by
    have e : addL (x :: r) [] = x :: r := by simp [addL]
    rw [e]
    show _ = _ + (0 : Int)
    rw [Int.add_zero]
  | x :: r, y :: t => by
    have e : addL (x :: r) (y :: t) = (x + y) :: addL r t := by simp [addL]
    rw [e]
    show x + y + 2 ^ w * val (addL r t) w = x + 2 ^ w * val r w + (y + 2 ^ w * val t w)
    rw [val_addL w r t, Int.mul_add]
    omega
theorem get_rep (c i : Nat) (h : Int) : (List.replicate c h).getD i 0 = if i < c then h else 0 := by
  rw [List.getD_eq_getElem?_getD, List.getElem?_replicate]
  split <;> rfl
theorem two_half {w : Nat} (hw : 1 ≤ w) : (2 : Int) ^ w = 2 * 2 ^ (w - 1) := by
  obtain ⟨k, rfl⟩ : ∃ k, w = k + 1 := ⟨w - 1, by omega⟩
  rw [Nat.add_sub_cancel, Int.pow_succ, Int.mul_comm]
theorem bal_iff (es : List Int) {w : Nat} (hw : 1 ≤ w) (c : Nat) : balL (val es w) w c = ent es c ↔ ∀ i, i < c → -(2 ^ (w - 1)) ≤ es.getD i 0 ∧ es.getD i 0 < 2 ^ (w - 1) := by
  have hB := two_half hw
  have key := digits_iff (addL es (List.replicate c (2 ^ (w - 1)))) w c
  rw [val_addL] at key
  have eg : ∀ i, i < c → (addL es (List.replicate c (2 ^ (w - 1)))).getD i 0 = es.getD i 0 + 2 ^ (w - 1) := fun i hi => by rw [addL_get, get_rep, if_pos hi]
  have e1 : balL (val es w) w c = ent es c ↔ digL (val es w + rep w c) w c = ent (addL es (List.replicate c (2 ^ (w - 1)))) c := by
    unfold balL ent digL
    rw [List.map_map, list_range_eq, list_range_eq]
    constructor
    · intro h i hi
      have := h i hi
      simp only [Function.comp] at this
      rw [eg i hi]
      omega
    · intro h i hi
      have := h i hi
      rw [eg i hi] at this
      simp only [Function.comp]
      omega
  rw [e1]
  show digL (val es w + val (List.replicate c (2 ^ (w - 1))) w) w c = _ ↔ _
  rw [key]
  constructor
  · intro h i hi
    have := h i hi
    rw [eg i hi] at this
    omega
  · intro h i hi
    have := h i hi
    rw [eg i hi]
    omega
/-- digits back -/
theorem val_digL (n : Int) (w : Nat) : ∀ c, val (digL n w c) w = n % 2 ^ (w * c)
  | 0 => by
    rw [Nat.mul_zero]
    show (0 : Int) = n % 1
    rw [Int.emod_one]
  | c + 1 => by
    have e : digL n w (c + 1) = digL n w c ++ [dig n w c] := by
      unfold digL
      rw [List.range_succ, List.map_append]
      rfl
    rw [e, val_append, val_digL n w c, digL_length]
    show n % 2 ^ (w * c) + 2 ^ (w * c) * (n / 2 ^ (w * c) % 2 ^ w + 2 ^ w * 0) = _
    have hp := pw (w * c)
    have h2 := emod_high n (w * c) w
    have h1 := emod_low n (w * c) w
    have d := Int.emod_add_mul_ediv (n % 2 ^ (w * c + w)) (2 ^ (w * c))
    rw [h1, h2] at d
    rw [Int.mul_zero, Int.add_zero, Nat.mul_succ]
    exact d
theorem val_sub (w : Nat) (h : Int) : ∀ xs : List Int, val (xs.map fun d => d - h) w = val xs w - val (List.replicate xs.length h) w
  | [] => rfl
  | x :: r => by
    show x - h + 2 ^ w * val (r.map fun d => d - h) w = x + 2 ^ w * val r w - (h + 2 ^ w * val (List.replicate r.length h) w)
    rw [val_sub w h r, Int.mul_sub]
    omega
theorem rep_eq (w : Nat) (h : Int) : ∀ s, (2 ^ w - 1) * val (List.replicate s h) w = h * (2 ^ (w * s) - 1)
  | 0 => by simp [val]
  | s + 1 => by
    rw [List.replicate_succ]
    show (2 ^ w - 1) * (h + 2 ^ w * val (List.replicate s h) w) = _
    have ih := rep_eq w h s
    have e : (2 ^ w - 1) * (2 ^ w * val (List.replicate s h) w) = 2 ^ w * (h * (2 ^ (w * s) - 1)) := by rw [← ih, ← Int.mul_assoc, Int.mul_comm (2 ^ w - 1), Int.mul_assoc]
    rw [Int.mul_add, e, Nat.mul_succ, Int.pow_add]
    generalize (2 : Int) ^ w = B
    generalize (2 : Int) ^ (w * s) = X
    simp only [Int.mul_sub, Int.sub_mul, Int.mul_one, Int.one_mul]
    rw [Int.mul_left_comm B h X, Int.mul_comm X B, Int.mul_comm B h]
    omega
theorem rep_low (w : Nat) (h : Int) (h0 : 0 ≤ h) : ∀ s, h * 2 ^ (w * s) ≤ val (List.replicate (s + 1) h) w
  | 0 => by
    show h * 2 ^ (w * 0) ≤ h + 2 ^ w * 0
    rw [Nat.mul_zero, Int.mul_zero, Int.add_zero]
    show h * 1 ≤ h
    omega
  | s + 1 => by
    have ih := rep_low w h h0 s
    rw [List.replicate_succ]
    show _ ≤ h + 2 ^ w * val (List.replicate (s + 1) h) w
    have := Int.mul_le_mul_of_nonneg_left ih (Int.le_of_lt (pw w))
    rw [Nat.mul_succ, Int.pow_add, ← Int.mul_assoc, Int.mul_comm _ (2 ^ w)]
    omega
/-- so many lanes hold all balanced digits of n -/
theorem bal_range {n : Int} {w s : Nat} (hw : 2 ≤ w) (hs : 1 ≤ s) (hn : 4 * (n.natAbs : Int) < 2 ^ (w * s)) : 0 ≤ n + rep w s ∧ n + rep w s < 2 ^ (w * s) := by
  have hB := two_half (show 1 ≤ w by omega)
  have hh : (2 : Int) ≤ 2 ^ (w - 1) := by
    obtain ⟨k, hk⟩ : ∃ k, w - 1 = k + 1 := ⟨w - 2, by omega⟩
    rw [hk, Int.pow_succ]
    have := pw k
    omega
  obtain ⟨t, rfl⟩ : ∃ t, s = t + 1 := ⟨s - 1, by omega⟩
  have lo := rep_low w (2 ^ (w - 1)) (by omega) t
  have e := rep_eq w (2 ^ (w - 1)) (t + 1)
  have eP : (2 : Int) ^ (w * (t + 1)) = 2 * (2 ^ (w - 1) * 2 ^ (w * t)) := by
    rw [Nat.mul_succ, Int.pow_add, hB, Int.mul_left_comm, Int.mul_comm (2 ^ (w * t))]
  unfold rep
  generalize val (List.replicate (t + 1) (2 ^ (w - 1))) w = r at *
  rw [hB] at e
  constructor
  · omega
  · generalize hP : (2 : Int) ^ (w * (t + 1)) = P at *
    generalize (2 : Int) ^ (w - 1) = h at *
    rcases Int.lt_or_le (n + r) P with z | z
    · exact z
    · exfalso
      have h4 : 3 * P + 1 ≤ 4 * r := by omega
      have hm := Int.mul_le_mul_of_nonneg_left h4 (show 0 ≤ 2 * h - 1 by omega)
      have e2 : (2 * h - 1) * (4 * r) = 4 * (h * (P - 1)) := by rw [← e, ← Int.mul_assoc, Int.mul_comm _ 4, Int.mul_assoc]
      rw [e2, Int.mul_sub, Int.sub_mul, Int.mul_add, Int.mul_assoc 2 h, Int.mul_left_comm h 3 P] at hm
      have hp : 2 * P ≤ h * P := Int.mul_le_mul_of_nonneg_right hh (by omega)
      omega
/-- beyond so many lanes all balanced digits are 0 -/
theorem bal_more {n : Int} {w s : Nat} (hw : 2 ≤ w) (hs : 1 ≤ s) (hn : 4 * (n.natAbs : Int) < 2 ^ (w * s)) (c : Nat) (hc : s ≤ c) : balL n w c = balL n w s ++ List.replicate (c - s) 0 := by
  obtain ⟨r0, r1⟩ := bal_range hw hs hn
  have hB := two_half (show 1 ≤ w by omega)
  have ev : val (balL n w s) w = n := by
    unfold balL
    rw [val_sub, val_digL, digL_length, Int.emod_eq_of_lt r0 r1]
    show n + rep w s - rep w s = n
    omega
  have hin : ∀ i, i < c → -(2 ^ (w - 1)) ≤ (balL n w s).getD i 0 ∧ (balL n w s).getD i 0 < 2 ^ (w - 1) := by
    intro i _
    have hp := pw (w - 1)
    by_cases hi : i < s
    · have e : (balL n w s).getD i 0 = dig (n + rep w s) w i - 2 ^ (w - 1) := by
        unfold balL digL
        rw [List.map_map, List.getD_eq_getElem?_getD, List.getElem?_map, List.getElem?_range hi]
        rfl
      rw [e]
      unfold dig
      have a0 := Int.emod_nonneg ((n + rep w s) / 2 ^ (w * i)) (show (2 : Int) ^ w ≠ 0 by have := pw w; omega)
      have a1 := Int.emod_lt_of_pos ((n + rep w s) / 2 ^ (w * i)) (pw w)
      omega
    · have e : (balL n w s).getD i 0 = 0 := by
        rw [List.getD_eq_getElem?_getD, List.getElem?_eq_none (by rw [balL_length]; omega)]
        rfl
      rw [e]
      omega
  have h1 := (bal_iff (balL n w s) (show 1 ≤ w by omega) c).mpr hin
  rw [ev] at h1
  rw [h1]
  refine List.ext_getElem? fun i => ?_
  unfold ent
  rw [List.getElem?_map]
  by_cases hi : i < s
  · rw [List.getElem?_range (by omega), List.getElem?_append_left (by rw [balL_length]; exact hi)]
    show some ((balL n w s).getD i 0) = _
    rw [List.getD_eq_getElem?_getD, List.getElem?_eq_getElem (by rw [balL_length]; exact hi)]
    rfl
  · rw [List.getElem?_append_right (by rw [balL_length]; omega), balL_length, List.getElem?_replicate]
    by_cases hic : i < c
    · rw [List.getElem?_range hic, if_pos (by omega)]
      show some ((balL n w s).getD i 0) = _
      rw [List.getD_eq_getElem?_getD, List.getElem?_eq_none (by rw [balL_length]; omega)]
      rfl
    · rw [List.getElem?_eq_none (by simp; omega), if_neg (by omega)]
      rfl
theorem bits_lt (n : Int) : n.natAbs < 2 ^ (Builtin.Int.intBits n) := by
  unfold Builtin.Int.intBits
  by_cases h : n = 0
  · subst h
    decide
  · rw [if_neg (by simpa using h)]
    exact (Nat.log2_lt (by omega)).mp (Nat.lt_succ_self _)
end Pl

set_option Elab.async false
set_option linter.all false
set_option maxRecDepth 100000
set_option maxHeartbeats 2000000
/-! enumerate and zip over lists and tuples alike -/
namespace RZ
open PySem
open PySem.Sem (wp)
/-- enumerate(v) for whatever begins -/
theorem fresh_enum {v : Value} {o : Obj} {Hv : Heap → Prop} (B : Begins v o Hv) :
    Meets (Builtin.«enumerate.__new__» ⟨[.type "enumerate", v], []⟩)
      (fun _ R s => Hv s.heap ∧ R (.ok (.ret (.ref (s.heap.push o).objs.size)))
        { s with heap := (s.heap.push o).push { cls := .type "enumerate", data := .fields #[.none, .bool false, .ref s.heap.objs.size, rawInt 0, .none, .none] } }) := by
  refine .of_wp fun pr wd Ar Rr st hs => ?_
  obtain ⟨hp, gn, dr, tk, os⟩ := st
  obtain ⟨hv, hr⟩ := hs
  have sub := sub_enumerate
  have goIter : ∀ {A' : Around} {E Q : Value → Shared → Prop}, Q (.ref hp.objs.size) ⟨hp.push o, gn, dr, tk, os⟩ → wpAny (model pr wd) A' (pyIter v) Q E ⟨hp, gn, dr, tk, os⟩ :=
    fun q => B.iter pr wd _ _ ⟨hp, gn, dr, tk, os⟩ _ hv q
  wp_walk using goIter
  refine wpAny_stack_any fun _ => wpAny_pure ?_
  split
  case h_1 =>
    rename_i cc _ _ _ _ _
    cases (cc == Value.type "enumerate") <;> (wp_walk using goIter; exact ⟨_, rfl, hr⟩)
  all_goals (wp_walk using goIter; exact ⟨_, rfl, hr⟩)
section
variable {prog : Program} {w : World} {A : Around} {E : Value → Shared → Prop} {s : Shared}
theorem call_enum_of {v : Value} {o : Obj} {Hv : Heap → Prop} {Q : Value → Shared → Prop} (B : Begins v o Hv) (hv : Hv s.heap)
    (k : ∀ h', IsEnum h' (s.heap.objs.size + 1) s.heap.objs.size 0 .none → h'.get? s.heap.objs.size = some o → (∀ b x, s.heap.get? b = some x → h'.get? b = some x) → Q (.ref (s.heap.objs.size + 1)) { s with heap := h' }) :
    wpAny (model prog w) A (call (.type "enumerate") [v]) Q E s := by
  refine callType_new F.called_enumerate (by decide) (F.typeCall_enumerate_1 _) (F.newCall_enumerate_1 _) (fun ob => F.args_object_init_2 ob _) F.entry_enumerate_new (fresh_enum B) ⟨hv, ?_⟩
  have sz : (s.heap.push o).objs.size = s.heap.objs.size + 1 := Heap.size_push ..
  show _ ∧ _
  rw [sz]
  have en := Heap.get?_push_size (s.heap.push o) (o := { cls := .type "enumerate", data := .fields #[.none, .bool false, .ref s.heap.objs.size, rawInt 0, .none, .none] }) rfl
  rw [sz] at en
  exact ⟨⟨_, en, rfl⟩, k _ en (Heap.get?_push_of_some _ (Heap.get?_push_size _ B.free)) fun b x e => Heap.get?_push_of_some _ (Heap.get?_push_of_some _ e)⟩
end
end RZ
namespace Pl
open PySem PySem.Spec PyProof.Rows L2 RZ
/-! ### a list (false) or a tuple (true) -/
def SqB (K : PySem.W.Frag) : Bool → Hp → Addr → List V → Prop
  | true, H, a, xs => SqT K H a xs
  | false, H, a, xs => SqL K H a xs
def ItB : Bool → Heap → Addr → Addr → Nat → Prop
  | true, h, it, a, i => h.IsTupleIter it a i
  | false, h, it, a, i => h.IsListIter it a i
def SeB : Bool → Heap → Addr → Array Value → Prop
  | true, h, a, v => h.IsTuple a v
  | false, h, a, v => h.IsList a v
def obB : Bool → Addr → Obj
  | true, a => { cls := .type "tuple_iterator", data := .fields #[.ref a, .int 0 0] }
  | false, a => { cls := .type "list_iterator", data := .fields #[.ref a, .int 0 0] }
theorem drawsB {prog : Program} {w : World} {A : Around} (hh : A.handled = none) (b : Bool) (it a : Addr) (hne : a ≠ it) (items : Array Value) :
    Draws prog w A it [it, a] items.size (fun i v => items[i]? = some v) (fun i h => ItB b h it a i ∧ SeB b h a items) := by
  cases b
  · exact .list hh it a hne items
  · exact .tuple hh it a hne items
theorem beginsB (b : Bool) (a : Addr) (items : Array Value) : Begins (.ref a) (obB b a) fun h => SeB b h a items := by
  cases b
  · exact begins_list a items
  · exact begins_tuple a items
theorem ItB.new {b : Bool} {h : Heap} {it a : Addr} (e : h.get? it = some (obB b a)) : ItB b h it a 0 := by
  cases b
  · exact ⟨_, e, rfl, rfl⟩
  · exact ⟨_, e, rfl, rfl⟩
theorem ItB.at {b : Bool} {h h' : Heap} {it a : Addr} {i : Nat} (x : ItB b h it a i) (e : ∀ o, h.get? it = some o → h'.get? it = some o) : ItB b h' it a i := by
  cases b
  · exact Heap.IsListIter.at x e
  · exact Heap.IsTupleIter.at x e
theorem ItB.obj {b : Bool} {h : Heap} {it a : Addr} {i : Nat} (x : ItB b h it a i) : ∃ o, h.get? it = some o ∧ ∀ v, o.data ≠ .cell v := by
  cases b
  · obtain ⟨o, e, _, d⟩ := x
    exact ⟨o, e, fun v z => by rw [d] at z; cases z⟩
  · obtain ⟨o, e, _, d⟩ := x
    exact ⟨o, e, fun v z => by rw [d] at z; cases z⟩
section
variable {X : Cx} {pins : List (Addr × Obj)} {σ : L2.St} {H : Hp} {s : Shared} {a : Addr} {xs ys : List V}
theorem seqB (I : Inv X pins σ H s) {b : Bool} (h : SqB X.K b H a xs) : ∃ its : List Value, Vals xs its ∧ SeB b s.heap a its.toArray ∧ a < s.heap.objs.size := by
  cases b
  · obtain ⟨its, rv, p, _⟩ := I.list h
    exact ⟨its, rv, p.isList, p.lt⟩
  · obtain ⟨its, rv, p, _⟩ := I.tuple h
    obtain ⟨o, e, _⟩ := id p
    exact ⟨its, rv, p, Heap.lt_size e⟩
theorem injB (I : Inv X pins σ H s) {b : Bool} (h : SqB X.K b H a xs) (h' : SqB X.K b H a ys) : xs = ys := by
  cases b
  · exact I.list_inj h h'
  · exact I.tuple_inj h h'
end
/-! ### enumerate -/
def IeB (K : PySem.W.Frag) (b : Bool) (a : Addr) : It :=
  ⟨fun i H => ∃ xs : List V, SqB K b H a xs ∧ i < xs.length,
   fun i H v H' => ∃ T x, v = .ref T ∧ H T = none ∧ H' = upd H T (.tup [.int (i : Nat), x]) ∧ ∀ xs, SqB K b H a xs → xs[i]? = some x,
   fun i H => ∃ xs : List V, SqB K b H a xs ∧ xs.length = i⟩
theorem turn_enumB {P : Program} {w : World} {K : PySem.W.Frag} {elts : List Expr} {kk : Nat} {tpos : Pos} (b : Bool) {a e it : Addr} (n1 : e ≠ it) (n2 : a ≠ it) (n3 : a ≠ e) :
    Turn P w K (.Tuple elts kk tpos) (IeB K b a) [e, it] e (fun i h => (∃ old, IsEnum h e it ((i : Nat) : Int) old) ∧ ItB b h it a i) := by
  have nm : e ∉ [it, a] := by simp [n1, Ne.symm n3]
  refine ⟨by simp, fun i h st c hc => ?_, fun i h h' st k => ?_, ?_, ?_, fun A i s Q E st h => ?_⟩
  · obtain ⟨⟨old, he⟩, hi⟩ := st
    rcases (show c = e ∨ c = it by simpa using hc) with z | z <;> rw [z]
    · exact ⟨_, he, fun v q => nomatch q⟩
    · exact hi.obj
  · obtain ⟨⟨old, he⟩, hi⟩ := st
    exact ⟨⟨old, k e (by simp) _ he⟩, hi.at fun o q => k it (by simp) o q⟩
  · intro X hP hw hK hc i pins s σ H E I hf st hg
    subst hP hw hK
    obtain ⟨⟨old, he⟩, hit⟩ := st
    obtain ⟨xs, hq, hlt⟩ := hg
    obtain ⟨its, rv, p, hal⟩ := seqB I hq
    have hle := rv.length
    have lte : e < s.heap.objs.size := Heap.lt_size he
    have ltI : it < s.heap.objs.size := by obtain ⟨o, q, _⟩ := hit.obj; exact Heap.lt_size q
    refine wpAny_pyNext_enum_itemD (drawsB (A := X.A.in1) (show X.A.in1.handled = none from I.ok.hd hc) b it a n2 its.toArray) he ⟨hit, p⟩ (by simp; omega) n1 nm fun u h' tk hu ho hst hT hsz hk => ?_
    refine ⟨_, rfl, wpAny_letOwnedTupleGo_enum (s := { s with heap := h', toks := tk + 1 }) ho fun h2 he2 sb => ?_⟩
    have hxi : xs[i]? = some xs[i] := List.getElem?_eq_getElem hlt
    obtain ⟨u', hu', ru⟩ := rv.get hxi
    have eu : u' = u := by
      have hu2 : its[i]? = some u := by simpa using hu
      rw [hu'] at hu2
      exact Option.some.inj hu2
    subst eu
    have hT2 := (sb.2 _ (Nat.ne_of_gt lte)).trans hT
    have I1 : Inv X pins σ (upd H s.heap.objs.size (.tup [.int (i : Nat), xs[i]])) { s with heap := h2, toks := tk + 1 } :=
      I.turnedNew (ch := [e, it]) (fun c o hb q => (sb.2 c (fun z => hb (by simp [z]))).trans (hk c o (fun z => hb (by simp [z])) (fun z => hb (by simp [z])) q)) hf (Nat.le_refl _)
        ⟨by show 2 ≤ sizeLine; decide, [.int i tk, u'], .cons ⟨_, rfl⟩ (.cons ru .nil), ⟨_, hT2, rfl, _, rfl⟩⟩
    refine ⟨.ref s.heap.objs.size, _, I1, rfl, ⟨_, xs[i], rfl, I.hok.fresh (Nat.le_refl _), rfl, fun l hl => by rw [injB I hl hq]; exact hxi⟩, ⟨⟨u', ?_⟩, hst.1.at fun o q => (sb.2 it (Ne.symm n1)).trans q⟩, fun c hcm => ?_⟩
    · have ei : ((i + 1 : Nat) : Int) = (i : Int) + 1 := Int.natCast_add i 1
      rw [ei]
      exact he2
    · have lt : c < s.heap.objs.size := by
        rcases (show c = e ∨ c = it by simpa using hcm) with z | z <;> rw [z] <;> assumption
      rw [upd_ne (Nat.ne_of_lt lt)]
      exact (hf c hcm).1
  · intro X hP hw hK hc i pins s σ H E I hf st hg
    subst hP hw hK
    obtain ⟨⟨old, he⟩, hit⟩ := st
    obtain ⟨xs, hq, hlt⟩ := hg
    obtain ⟨its, rv, p, hal⟩ := seqB I hq
    have hle := rv.length
    have ei : its.toArray.size = i := by simp; omega
    obtain ⟨f0, f1, f2, f3, f4, f5⟩ := hf it (by simp)
    refine wpAny_pyNext_enum_endD (drawsB (A := X.A.in1) (show X.A.in1.handled = none from I.ok.hd hc) b it a n2 its.toArray) he ⟨by rw [ei]; exact hit, p⟩ fun h' eb => ?_
    exact ⟨rfl, I.turned (t' := s.toks) (fun c o hb q => eb c o hb q) f0 f1 f3 f4 f5⟩
  · obtain ⟨⟨_, he⟩, _⟩ := st
    exact wpAny_pyIter_enum he h
/-- enumerate of a list or a tuple -/
def iEnumQ (K : PySem.W.Frag) (ta : TA) : TI := fun σ H R => ta σ H fun vs H1 => ∃ b a xs, vs = [.ref a] ∧ SqB K b H1 a xs ∧ R (IeB K b a) H1
theorem pi_enumQ {X : Cx} {K : PySem.W.Frag} {e : Expr} {ta : TA} {p pos tpos : Pos} {elts : List Expr} {kk : Nat} (hg : Gl X "enumerate") (hm : X.mg "enumerate" = none) (ha : PA X [e] ta)
    (hK : X.K = K := by rfl) (hs : starEach [e] X.env = [(false, eval e X.env)] := by rfl) : PI X (.Tuple elts kk tpos) (.Call (.Name "enumerate" p) [e] [] pos) (iEnumQ K ta) := by
  subst hK
  refine ⟨fun pins s σ H R I h => Call_ (ld_blt I hg hm boot_enumerate (PyProof.Rows.callWith_type1 (thn (ha.run pos pins s σ H _ I h) fun us s1 q0 => ?_) hs rfl))⟩
  obtain ⟨vs, H1, I1, r1, b, a, xs, rfl, hq, q⟩ := q0
  obtain ⟨its, rv, p', hal⟩ := seqB I1 hq
  rcases r1 with _ | ⟨⟨⟩, ⟨⟩⟩
  refine call_enum_of (beginsB b a its.toArray) p' fun h' he ho hk => wpAny_pyIter_enum he ?_
  refine ⟨s1.heap.objs.size + 1, [s1.heap.objs.size + 1, s1.heap.objs.size], _, _, H1, rfl, I1.kept (t' := s1.toks) hk, turn_enumB (a := a) (e := s1.heap.objs.size + 1) (it := s1.heap.objs.size) b (Nat.succ_ne_self _) (Nat.ne_of_lt hal) (Nat.ne_of_lt (Nat.lt_succ_of_lt hal)), ⟨⟨.none, he⟩, .new ho⟩, fun c hc => ?_, q⟩
  have hle : s1.heap.objs.size ≤ c := by
    rcases (show c = s1.heap.objs.size + 1 ∨ c = s1.heap.objs.size by simpa using hc) with z | z <;> rw [z]
    · exact Nat.le_add_right _ _
    · exact Nat.le_refl _
  exact I1.fpOk hle (I1.hok.fresh hle)
theorem walk_enumB {K : PySem.W.Frag} {b : Bool} {a : Addr} {xs : List V} : Walk (IeB K b a) xs.length (fun H => SqB K b H a xs) (YPair (fun i => some (.int (i : Nat))) fun i => xs[i]?) := by
  refine ⟨fun i _ hi q => ⟨xs, q, hi⟩, fun _ q => ⟨xs, q, rfl⟩, fun i H v H' _ q y => ?_⟩
  obtain ⟨T, x, h1, h2, h3, h4⟩ := y
  exact ⟨T, _, x, h1, h2, h3, rfl, h4 xs q⟩
/-! ### zip -/
def IzB (K : PySem.W.Frag) (b1 b2 : Bool) (a1 a2 : Addr) : It :=
  ⟨fun i H => ∃ xs ys : List V, SqB K b1 H a1 xs ∧ SqB K b2 H a2 ys ∧ i < xs.length ∧ i < ys.length,
   fun i H v H' => ∃ T x y, v = .ref T ∧ H T = none ∧ H' = upd H T (.tup [x, y]) ∧ (∀ xs, SqB K b1 H a1 xs → xs[i]? = some x) ∧ ∀ ys, SqB K b2 H a2 ys → ys[i]? = some y,
   fun i H => ∃ xs ys : List V, SqB K b1 H a1 xs ∧ SqB K b2 H a2 ys ∧ i = min xs.length ys.length⟩
theorem turn_zipB {P : Program} {w : World} {K : PySem.W.Frag} {elts : List Expr} {kk : Nat} {tpos : Pos} (b1 b2 : Bool) {a1 a2 z TI TO i1 i2 : Addr} (D : ZipSep2 z TI TO i1 i2 [i1, a1] [i2, a2]) (n1 : a1 ≠ i1) (n2 : a2 ≠ i2) :
    Turn P w K (.Tuple elts kk tpos) (IzB K b1 b2 a1 a2) [z, TI, TO, i1, i2] z
      (fun i h => IsZip h z TI TO .none ∧ IsTupOf2 h TI (.ref i1) (.ref i2) ∧ (∃ x y, IsTupOf2 h TO x y) ∧ ItB b1 h i1 a1 i ∧ ItB b2 h i2 a2 i) := by
  refine ⟨by simp, fun i h st c hc => ?_, fun i h h' st k => ?_, ?_, ?_, fun A i s Q E st h => wpAny_pyIter_zip st.1 h⟩
  · obtain ⟨hz, hI, ⟨x, y, hO⟩, t1, t2⟩ := st
    rcases (show c = z ∨ c = TI ∨ c = TO ∨ c = i1 ∨ c = i2 by simpa using hc) with q | q | q | q | q <;> rw [q]
    · exact ⟨_, hz, fun v q => nomatch q⟩
    · exact ⟨_, hI, fun v q => nomatch q⟩
    · exact ⟨_, hO, fun v q => nomatch q⟩
    · exact t1.obj
    · exact t2.obj
  · obtain ⟨hz, hI, ⟨x, y, hO⟩, t1, t2⟩ := st
    exact ⟨k z (by simp) _ hz, k TI (by simp) _ hI, ⟨x, y, k TO (by simp) _ hO⟩, t1.at fun o q => k i1 (by simp) o q, t2.at fun o q => k i2 (by simp) o q⟩
  · intro X hP hw hK hc i pins s σ H E I hf st hg
    subst hP hw hK
    obtain ⟨hz, hI, ⟨x0, y0, hO⟩, t1, t2⟩ := st
    obtain ⟨xs, ys, hx, hy, lx, ly⟩ := hg
    obtain ⟨its, rv, p, al⟩ := seqB I hx
    obtain ⟨jts, rw', p', al'⟩ := seqB I hy
    have e1 := rv.length
    have e2 := rw'.length
    have hd : X.A.in1.handled = none := I.ok.hd hc
    refine wpAny_pyNext_zipD2_item D (drawsB (A := X.A.in1) hd b1 i1 a1 n1 its.toArray) (drawsB (A := X.A.in1) hd b2 i2 a2 n2 jts.toArray) hz hI hO ⟨t1, p⟩ ⟨t2, p'⟩ (by simp; omega) (by simp; omega) fun u v h' tk hu hv z' O' st1 st2 hT hsz hk => ?_
    refine ⟨_, rfl, wpAny_letOwnedTupleGo_zip (s := { s with heap := h', toks := tk }) z' fun h2 z2 sb => ?_⟩
    have hxi : xs[i]? = some xs[i] := List.getElem?_eq_getElem lx
    have hyi : ys[i]? = some ys[i] := List.getElem?_eq_getElem ly
    obtain ⟨u', hu', ru⟩ := rv.get hxi
    obtain ⟨v', hv', rv'⟩ := rw'.get hyi
    have eu : u' = u := by
      have h2 : its[i]? = some u := by simpa using hu
      rw [hu'] at h2
      exact Option.some.inj h2
    have ev : v' = v := by
      have h2 : jts[i]? = some v := by simpa using hv
      rw [hv'] at h2
      exact Option.some.inj h2
    subst eu ev
    have hT2 := (sb.2 _ (Nat.ne_of_gt (Heap.lt_size hz))).trans hT
    have old : ∀ c o, c ∉ [z, TI, TO, i1, i2] → s.heap.get? c = some o → h2.get? c = some o := fun c o hc q =>
      (sb.2 c fun r => hc (by simp [r])).trans (hk c o (fun r => hc (by simp [r])) (fun r => hc (by simp [r])) (fun r => hc (by simp [r])) (fun r => hc (by simp [r])) q)
    have I1 : Inv X pins σ (upd H s.heap.objs.size (.tup [xs[i], ys[i]])) { s with heap := h2, toks := tk } :=
      I.turnedNew (ch := [z, TI, TO, i1, i2]) old hf (Nat.le_refl _) ⟨by show 2 ≤ sizeLine; decide, [u', v'], .cons ru (.cons rv' .nil), ⟨_, hT2, rfl, _, rfl⟩⟩
    refine ⟨.ref s.heap.objs.size, _, I1, rfl, ⟨_, xs[i], ys[i], rfl, I.hok.fresh (Nat.le_refl _), rfl, fun l hl => by rw [injB I hl hx]; exact hxi, fun l hl => by rw [injB I hl hy]; exact hyi⟩, ⟨z2, ?_, ⟨u', v', ?_⟩, ?_, ?_⟩, fun c hcm => ?_⟩
    · exact (sb.2 _ D.TIz).trans (hk _ _ D.TIz D.TITO D.TIi1 D.TIi2 hI)
    · exact (sb.2 _ D.TOz).trans O'
    · exact st1.1.at fun o q => (sb.2 _ (Ne.symm D.zi1)).trans q
    · exact st2.1.at fun o q => (sb.2 _ (Ne.symm D.zi2)).trans q
    · have lt : c < s.heap.objs.size := by
        rcases (show c = z ∨ c = TI ∨ c = TO ∨ c = i1 ∨ c = i2 by simpa using hcm) with q | q | q | q | q <;> rw [q]
        · exact Heap.lt_size hz
        · exact Heap.lt_size hI
        · exact Heap.lt_size hO
        · obtain ⟨o, e, _⟩ := t1.obj
          exact Heap.lt_size e
        · obtain ⟨o, e, _⟩ := t2.obj
          exact Heap.lt_size e
      rw [upd_ne (Nat.ne_of_lt lt)]
      exact (hf c hcm).1
  · intro X hP hw hK hc i pins s σ H E I hf st hg
    subst hP hw hK
    obtain ⟨hz, hI, ⟨x0, y0, hO⟩, t1, t2⟩ := st
    obtain ⟨xs, ys, hx, hy, ei⟩ := hg
    obtain ⟨its, rv, p, al⟩ := seqB I hx
    obtain ⟨jts, rw', p', al'⟩ := seqB I hy
    have e1 := rv.length
    have e2 := rw'.length
    have hd : X.A.in1.handled = none := I.ok.hd hc
    exact wpAny_pyNext_zipD2_end D (drawsB (A := X.A.in1) hd b1 i1 a1 n1 its.toArray) (drawsB (A := X.A.in1) hd b2 i2 a2 n2 jts.toArray) hz hI hO ⟨t1, p⟩ ⟨t2, p'⟩ (by simp; omega) (by simp; omega) (by simp; omega) fun h' tk hk =>
      ⟨rfl, I.turnedL (ch := [z, TI, TO, i1, i2]) (fun c o hc q => hk c o (fun r => hc (by simp [r])) (fun r => hc (by simp [r])) (fun r => hc (by simp [r])) (fun r => hc (by simp [r])) q) hf⟩
def iZipQ (K : PySem.W.Frag) (ta : TA) : TI := fun σ H R => ta σ H fun vs H1 => ∃ b1 b2 a1 a2 xs ys, vs = [.ref a1, .ref a2] ∧ SqB K b1 H1 a1 xs ∧ SqB K b2 H1 a2 ys ∧ R (IzB K b1 b2 a1 a2) H1
theorem pi_zipQ {X : Cx} {K : PySem.W.Frag} {e e2 : Expr} {ta : TA} {p pos tpos : Pos} {elts : List Expr} {kk : Nat} (hg : Gl X "zip") (hm : X.mg "zip" = none) (ha : PA X [e, e2] ta) (hK : X.K = K := by rfl)
    (hs : starEach [e, e2] X.env = (false, eval e X.env) :: starEach [e2] X.env := by rfl) (hpl : (backTo pos (starEach [e2] X.env)).any (·.1) = false := by rfl) :
    PI X (.Tuple elts kk tpos) (.Call (.Name "zip" p) [e, e2] [] pos) (iZipQ K ta) := by
  subst hK
  refine ⟨fun pins s σ H R I h => Call_ (ld_blt I hg hm PyProof.Rows.boot_zip (PyProof.Rows.callWith_type1 (thn (ha.run pos pins s σ H _ I h) fun us s1 q0 => ?_) hs hpl))⟩
  obtain ⟨vs, H1, I1, r1, b1, b2, a1, a2, xs, ys, rfl, hx, hy, q⟩ := q0
  obtain ⟨its, rv, p1, al⟩ := seqB I1 hx
  obtain ⟨jts, rw', p2, al'⟩ := seqB I1 hy
  rcases r1 with _ | ⟨⟨⟩, _ | ⟨⟨⟩, ⟨⟩⟩⟩
  refine zip_begins2 (beginsB b1 a1 its.toArray) (beginsB b2 a2 jts.toArray) p1 p2 fun h' hz hI hO o1 o2 hsz hk => wpAny_pyIter_zip hz ?_
  have sep := zip_sep2 (N := s1.heap.objs.size) (fp1 := [a1]) (fp2 := [a2]) (fun c hc => by rw [List.mem_singleton.mp hc]; exact al) (fun c hc => by rw [List.mem_singleton.mp hc]; exact al')
  refine ⟨s1.heap.objs.size + 4, [s1.heap.objs.size + 4, s1.heap.objs.size + 2, s1.heap.objs.size + 3, s1.heap.objs.size, s1.heap.objs.size + 1], _, _, H1, rfl, I1.kept (t' := s1.toks) hk,
    turn_zipB b1 b2 sep (Nat.ne_of_lt al) (Nat.ne_of_lt (Nat.lt_succ_of_lt al')), ⟨hz, hI, ⟨_, _, hO⟩, .new o1, .new o2⟩, fun c hc => ?_, q⟩
  have hle : s1.heap.objs.size ≤ c := by
    rcases (show c = s1.heap.objs.size + 4 ∨ c = s1.heap.objs.size + 2 ∨ c = s1.heap.objs.size + 3 ∨ c = s1.heap.objs.size ∨ c = s1.heap.objs.size + 1 by simpa using hc) with z | z | z | z | z <;> rw [z]
    all_goals first | exact Nat.le_refl _ | exact Nat.le_add_right _ _
  exact I1.fpOk hle (I1.hok.fresh hle)
theorem walk_zipB {K : PySem.W.Frag} {b1 b2 : Bool} {a1 a2 : Addr} {xs ys : List V} : Walk (IzB K b1 b2 a1 a2) (min xs.length ys.length) (fun H => SqB K b1 H a1 xs ∧ SqB K b2 H a2 ys) (YPair (fun i => xs[i]?) fun i => ys[i]?) := by
  refine ⟨fun i _ hi q => ⟨xs, ys, q.1, q.2, by omega, by omega⟩, fun _ q => ⟨xs, ys, q.1, q.2, rfl⟩, fun i H v H' _ q y => ?_⟩
  obtain ⟨T, x, z, h1, h2, h3, h4, h5⟩ := y
  exact ⟨T, x, z, h1, h2, h3, h4 xs q.1, h5 ys q.2⟩
/-! ### loops over pairs -/
section
variable {K : PySem.W.Frag} {g : TG} {tt : TT} {te : TE} {vs : List Nat} {σ : L2.St} {H1 : Hp} {D : Addr} {Qd : Hp → Prop} {J : It} {n : Nat} {G : Hp → Prop} {f1 f2 : Nat → Option V}
/-- a comprehension over pairs -/
theorem lcN_pair (wk : Walk J n G (YPair f1 f2)) (I : Nat → List V → Hp → Prop) (h0 : I 0 [] H1) (hl : ∀ i acc H, i ≤ n → I i acc H → H D = some (.lst acc) → G H)
    (hs : ∀ i x y acc H H2 T, f1 i = some x → f2 i = some y → i < n → I i acc H → H D = some (.lst acc) → Same H H2 → SqT K H2 T [x, y] → g (.ref T) (wipe σ vs) H2 fun σ2 H2 => wipe σ2 vs = wipe σ vs ∧ tt σ2 H2 fun b H3 =>
      if b = true then te σ2 H3 fun y H4 => H4 D = some (.lst acc) ∧ acc.length < sizeLine ∧ ∀ H5, SameBut D H4 H5 → H5 D = some (.lst (acc ++ [y])) → I (i + 1) (acc ++ [y]) H5 else H3 D = some (.lst acc) ∧ I (i + 1) acc H3)
    (hd : ∀ acc H, I n acc H → H D = some (.lst acc) → Qd H) : LcGoal J g tt te vs σ H1 D Qd := by
  refine ⟨fun i m acc H => m = n - i ∧ i ≤ n ∧ I i acc H, ⟨n, by simp, Nat.zero_le _, h0⟩, ?_⟩
  rintro i m acc H ⟨rfl, hi, p⟩ eD
  have q := hl i acc H hi p eD
  rcases Nat.lt_or_ge i n with lt | ge
  · refine .inr ⟨wk.goes i H lt q, I (i + 1), fun acc' H' p' => ⟨n - (i + 1), by omega, rfl, lt, p'⟩, fun x H' y => ?_⟩
    obtain ⟨T, x1, x2, rfl, nT, rfl, h1, h2⟩ := wk.yields i H x H' lt q y
    exact hs i x1 x2 acc H _ T h1 h2 lt p eD (same_upd nT) (.inl (.inl upd_same))
  · obtain rfl : i = n := Nat.le_antisymm hi ge
    exact .inl ⟨wk.stops H q, hd acc H p eD⟩
/-- a loop over pairs -/
theorem for_pair {tb : TS} {Ds : Ends} (wk : Walk J n G (YPair f1 f2)) (Pv : Nat → L2.St → Hp → Prop) (h0 : Pv 0 σ H1) (hG : ∀ i σ H, i ≤ n → Pv i σ H → G H)
    (hs : ∀ i x y σ H H2 T, f1 i = some x → f2 i = some y → i < n → Pv i σ H → Same H H2 → SqT K H2 T [x, y] → g (.ref T) σ H2 fun σ2 H2 => tb { Ds with nx := Pv (i + 1), ct := Pv (i + 1), bk := Ds.nx } σ2 H2)
    (hd : ∀ σ H, Pv n σ H → Ds.nx σ H) :
    ∃ W : Nat → Nat → L2.St → Hp → Prop, (∃ m, W 0 m σ H1) ∧ ∀ i m σ H, W i m σ H →
      (J.stop i H ∧ Ds.nx σ H) ∨ (J.go i H ∧ ∃ N : L2.St → Hp → Prop, (∀ σ' H', N σ' H' → ∃ m', m' < m ∧ W (i + 1) m' σ' H') ∧ ∀ x H', J.yld i H x H' → g x σ H' fun σ2 H2 => tb { Ds with nx := N, ct := N, bk := Ds.nx } σ2 H2) :=
  for_it wk Pv h0 hG (fun i x σ H H' hi p y => by
    obtain ⟨T, x1, x2, rfl, nT, rfl, h1, h2⟩ := y
    exact hs i x1 x2 σ H _ T h1 h2 hi p (same_upd nT) (.inl (.inl upd_same))) hd
end
/-! ### slices, of either kind -/
def rSlQ (K : PySem.W.Frag) : V → Option Int → Option Int → Hp → VK → Prop := fun x lo hi H Q => rSlL2 K x lo hi H Q ∨ rSlT2 K x lo hi H Q
theorem sl_sqK {X : Cx} {K : PySem.W.Frag} (hK : X.K = K := by rfl) : SlR X (rSlQ K) := by
  subst hK
  intro pins s σ H x v vl vu lo hi sl Q I r1 r2 r3 r4 h
  exact h.elim (sl_listN pins s σ H x v vl vu lo hi sl Q I r1 r2 r3 r4) (sl_tupN pins s σ H x v vl vu lo hi sl Q I r1 r2 r3 r4)
theorem Sq.cases {K : PySem.W.Frag} {H : Hp} {a : Addr} {xs : List V} (h : Sq K H a xs) : ∃ b, SqB K b H a xs := h.elim (fun h => ⟨false, h⟩) fun h => ⟨true, h⟩
theorem SqB.sq {K : PySem.W.Frag} {b : Bool} {H : Hp} {a : Addr} {xs : List V} (h : SqB K b H a xs) : Sq K H a xs := by
  cases b
  · exact .inl h
  · exact .inr h
theorem SqB.same {K : PySem.W.Frag} {b : Bool} {H H' : Hp} {a : Addr} {xs : List V} (s : Same H H') (h : SqB K b H a xs) : SqB K b H' a xs := by
  cases b
  · exact s.seq h
  · exact s.seqT h
/-- a list of two unpacked into two names -/
theorem pg_pairL {X : Cx} {K : PySem.W.Frag} {i j : Nat} {x y : Str} {p1 p2 pos : Pos} {kk : Nat} (hc : X.calm = true) (hN : X.N.Nodup) (hi : X.N[i]? = some x) (hj : X.N[j]? = some y) (hx : Loc X.env.scope x) (hy : Loc X.env.scope y)
    (hfx : X.fn x = true ∨ X.env.scope.names.lookup x = some .local := by first | exact .inl rfl | exact .inr rfl | assumption) (hfy : X.fn y = true ∨ X.env.scope.names.lookup y = some .local := by first | exact .inl rfl | exact .inr rfl | assumption) (hK : X.K = K := by rfl) :
    PG X (.Tuple [.Name x p1, .Name y p2] kk pos) (gLst K 2 (gCons (gName i) (gCons (gName j) gNil))) := hK ▸ pg_lst hc (pgs_cons (pg_name hN hi hx hfx) (pgs_cons (pg_name hN hj hy hfy) pgs_nil))
end Pl

set_option Elab.async false
set_option linter.all false
set_option maxRecDepth 100000
set_option maxHeartbeats 2000000
namespace Pl
open PySem PySem.Spec PyProof.Rows L2 RZ
/-! ### products, lane by lane -/
def shl (ys : List Int) (i n : Nat) : Int := if i ≤ n then ys.getD (n - i) 0 else 0
def conv (xs ys : List Int) : Nat → Nat → Int
  | 0, _ => 0
  | t + 1, n => conv xs ys t n + xs.getD t 0 * shl ys t n
def mulP (xs ys : List Int) : List Int := (List.range (xs.length + ys.length - 1)).map (conv xs ys xs.length)
theorem mulP_length (xs ys : List Int) : (mulP xs ys).length = xs.length + ys.length - 1 := by simp [mulP]
theorem shl_out {ys : List Int} {i n : Nat} (h : n < i ∨ i + ys.length ≤ n) : shl ys i n = 0 := by
  unfold shl
  split
  · rw [List.getD_eq_getElem?_getD, List.getElem?_eq_none (by omega)]
    rfl
  · rfl
theorem conv_out (xs ys : List Int) {n : Nat} : ∀ t, t ≤ xs.length → (0 < t → xs.length + ys.length - 1 ≤ n) → xs.length + ys.length ≤ n + 1 → conv xs ys t n = 0
  | 0, _, _, _ => rfl
  | t + 1, h, _, h2 => by
    show conv xs ys t n + _ = 0
    rw [conv_out xs ys t (by omega) (by omega) h2, shl_out (by omega), Int.mul_zero]
    rfl
theorem mulP_get (xs ys : List Int) (n : Nat) : (mulP xs ys).getD n 0 = conv xs ys xs.length n := by
  unfold mulP
  rw [List.getD_eq_getElem?_getD, List.getElem?_map]
  rcases Nat.lt_or_ge n (xs.length + ys.length - 1) with h | h
  · rw [List.getElem?_range h]
    rfl
  · rw [List.getElem?_eq_none (by rw [List.length_range]; exact h)]
    exact (conv_out xs ys _ (Nat.le_refl _) (fun _ => h) (by omega)).symm
theorem conv_cons (x : Int) (xs ys : List Int) (n : Nat) : ∀ t, conv (x :: xs) ys (t + 1) n = x * ys.getD n 0 + if n = 0 then 0 else conv xs ys t (n - 1)
  | 0 => by
    show 0 + x * shl ys 0 n = _
    have e : shl ys 0 n = ys.getD n 0 := by unfold shl; rw [if_pos (Nat.zero_le _)]; rfl
    rw [e, Int.zero_add]
    split <;> simp [conv]
  | t + 1 => by
    show conv (x :: xs) ys (t + 1) n + xs.getD t 0 * shl ys (t + 1) n = _
    rw [conv_cons x xs ys n t, Int.add_assoc]
    congr 1
    split
    · rename_i h
      rw [shl_out (by omega), Int.mul_zero]
      rfl
    · rename_i h
      show conv xs ys t (n - 1) + _ = conv xs ys t (n - 1) + _
      congr 2
      unfold shl
      by_cases h1 : t + 1 ≤ n
      · rw [if_pos h1, if_pos (by omega), show n - (t + 1) = n - 1 - t by omega]
      · rw [if_neg h1, if_neg (by omega)]
theorem val_scale (x : Int) (w : Nat) : ∀ ys : List Int, val (ys.map (x * ·)) w = x * val ys w
  | [] => by show (0 : Int) = x * 0; rw [Int.mul_zero]
  | y :: ys => by
    show x * y + 2 ^ w * val (ys.map (x * ·)) w = x * (y + 2 ^ w * val ys w)
    rw [val_scale x w ys, Int.mul_add, Int.mul_left_comm]
theorem map_get_scale (x : Int) (ys : List Int) (n : Nat) : (ys.map (x * ·)).getD n 0 = x * ys.getD n 0 := by
  rw [List.getD_eq_getElem?_getD, List.getD_eq_getElem?_getD, List.getElem?_map]
  cases ys[n]? with
  | none => show (0 : Int) = x * 0; rw [Int.mul_zero]
  | some y => rfl
theorem val_mulP (w : Nat) (ys : List Int) : ∀ xs : List Int, val (mulP xs ys) w = val xs w * val ys w
  | [] => by
    have e : ∀ l : List Int, (∀ n, l.getD n 0 = 0) → val l w = 0 := by
      intro l
      induction l with
      | nil => intro _; rfl
      | cons a l ih =>
        intro h
        show a + 2 ^ w * val l w = 0
        have h0 : a = 0 := h 0
        rw [ih fun n => h (n + 1), h0, Int.mul_zero]
        rfl
    rw [e _ fun n => mulP_get [] ys n]
    show (0 : Int) = 0 * _
    rw [Int.zero_mul]
  | x :: xs => by
    have key : val (mulP (x :: xs) ys) w = val (addL (ys.map (x * ·)) (0 :: mulP xs ys)) w := by
      refine val_congr w (xs.length + ys.length + 1) _ _ ?_ ?_ fun n => ?_
      · rw [mulP_length, List.length_cons]
        omega
      · rw [addL_length, List.length_map, List.length_cons, mulP_length]
        omega
      · rw [mulP_get, addL_get, map_get_scale]
        show conv (x :: xs) ys (xs.length + 1) n = _
        rw [conv_cons]
        congr 1
        cases n with
        | zero => rfl
        | succ n =>
          show (if n + 1 = 0 then (0 : Int) else conv xs ys xs.length n) = (mulP xs ys).getD n 0
          rw [if_neg (by omega), mulP_get]
    rw [key, val_addL, val_scale]
    show x * val ys w + (0 + 2 ^ w * val (mulP xs ys) w) = (x + 2 ^ w * val xs w) * val ys w
    rw [val_mulP w ys xs, Int.zero_add, Int.add_mul, Int.mul_assoc]
/-! ### how great a lane of a product is -/
theorem getD_small {xs : List Int} {A : Nat} (hA : 0 < A) (h : ∀ x ∈ xs, x.natAbs < A) (i : Nat) : (xs.getD i 0).natAbs < A := by
  rw [List.getD_eq_getElem?_getD]
  cases e : xs[i]? with
  | none => exact hA
  | some y => exact h y (List.mem_of_getElem? e)
theorem conv_small (xs ys : List Int) {A B : Nat} (hA : 0 < A) (hB : 0 < B) (hx : ∀ x ∈ xs, x.natAbs < A) (hy : ∀ y ∈ ys, y.natAbs < B) (n : Nat) :
    ∀ t, (conv xs ys t n).natAbs ≤ min t (min t (n + 1) - (n + 1 - ys.length)) * (A * B)
  | 0 => Nat.zero_le _
  | t + 1 => by
    have ih := conv_small xs ys hA hB hx hy n t
    show (conv xs ys t n + xs.getD t 0 * shl ys t n).natAbs ≤ _
    by_cases h : n < t ∨ t + ys.length ≤ n
    · rw [shl_out h, Int.mul_zero, Int.add_zero]
      exact Nat.le_trans ih (Nat.mul_le_mul_right _ (by omega))
    · have h1 : (xs.getD t 0 * shl ys t n).natAbs ≤ A * B := by
        rw [Int.natAbs_mul]
        refine Nat.mul_le_mul (Nat.le_of_lt (getD_small hA hx t)) ?_
        unfold shl
        split
        · exact Nat.le_of_lt (getD_small hB hy _)
        · exact Nat.zero_le _
      refine Nat.le_trans (Int.natAbs_add_le _ _) (Nat.le_trans (Nat.add_le_add ih h1) ?_)
      rw [← Nat.succ_mul]
      exact Nat.mul_le_mul_right _ (by omega)
theorem mulP_small (xs ys : List Int) {A B : Nat} (hA : 0 < A) (hB : 0 < B) (hx : ∀ x ∈ xs, x.natAbs < A) (hy : ∀ y ∈ ys, y.natAbs < B) : ∀ z ∈ mulP xs ys, z.natAbs ≤ min xs.length ys.length * (A * B) := by
  intro z hz
  unfold mulP at hz
  obtain ⟨n, hn, rfl⟩ := List.mem_map.mp hz
  exact Nat.le_trans (conv_small xs ys hA hB hx hy n xs.length) (Nat.mul_le_mul_right _ (by omega))
theorem mulP_get_small (xs ys : List Int) {A B : Nat} (hA : 0 < A) (hB : 0 < B) (hx : ∀ x ∈ xs, x.natAbs < A) (hy : ∀ y ∈ ys, y.natAbs < B) (n : Nat) : ((mulP xs ys).getD n 0).natAbs ≤ min xs.length ys.length * (A * B) := by
  rw [mulP_get]
  exact Nat.le_trans (conv_small xs ys hA hB hx hy n xs.length) (Nat.mul_le_mul_right _ (by omega))
/-! ### pair by pair -/
def psum (ps : List (Nat × Int)) (n : Nat) : Int := match ps with
  | [] => 0
  | p :: r => (if p.1 = n then p.2 else 0) + psum r n
theorem psum_append (a b : List (Nat × Int)) (n : Nat) : psum (a ++ b) n = psum a n + psum b n := by
  induction a with
  | nil => exact (Int.zero_add _).symm
  | cons p a ih =>
    show _ + psum (a ++ b) n = (_ + psum a n) + psum b n
    rw [ih, Int.add_assoc]
/-- the pairs with a factor that is not 0 -/
def prs (ys : List Int) (t : Nat) : List (Nat × Int) := ((List.range t).map fun i => (i, ys.getD i 0)).filter fun p => p.2 ≠ 0
theorem prs_succ (ys : List Int) (t : Nat) : prs ys (t + 1) = prs ys t ++ if ys.getD t 0 ≠ 0 then [(t, ys.getD t 0)] else [] := by
  unfold prs
  rw [List.range_succ, List.map_append, List.filter_append]
  congr 1
  show List.filter _ [(t, ys.getD t 0)] = _
  rw [List.filter_cons]
  by_cases h : ys.getD t 0 = 0 <;> simp [h]
theorem psum_prs (ys : List Int) (n : Nat) : ∀ t, psum (prs ys t) n = if n < t then ys.getD n 0 else 0
  | 0 => rfl
  | t + 1 => by
    rw [prs_succ, psum_append, psum_prs ys n t]
    have e0 : psum (if ys.getD t 0 ≠ 0 then [(t, ys.getD t 0)] else []) n = if t = n then ys.getD t 0 else 0 := by
      by_cases h : ys.getD t 0 = 0
      · rw [if_neg (fun z => z h), h]
        split <;> rfl
      · rw [if_pos h]
        show (if t = n then ys.getD t 0 else 0) + 0 = _
        rw [Int.add_zero]
    rw [e0]
    by_cases e : t = n
    · subst e
      rw [if_neg (Nat.lt_irrefl _), if_pos rfl, if_pos (Nat.lt_succ_self _), Int.zero_add]
    · rw [if_neg e, Int.add_zero]
      by_cases h2 : n < t
      · rw [if_pos h2, if_pos (by omega)]
      · rw [if_neg h2, if_neg (by omega)]
theorem prs_lt {ys : List Int} {t : Nat} {p : Nat × Int} (h : p ∈ prs ys t) : p.1 < t := by
  unfold prs at h
  obtain ⟨i, hi, rfl⟩ := List.mem_map.mp (List.mem_filter.mp h).1
  exact List.mem_range.mp hi
theorem psum_all (ys : List Int) (n : Nat) : psum (prs ys ys.length) n = ys.getD n 0 := by
  rw [psum_prs]
  split
  · rfl
  · rename_i h
    rw [List.getD_eq_getElem?_getD, List.getElem?_eq_none (by omega)]
    rfl
theorem prs_length (ys : List Int) (t : Nat) : (prs ys t).length ≤ t := by
  unfold prs
  refine Nat.le_trans (List.length_filter_le _ _) ?_
  simp
/-- one more product at lane k -/
theorem set_get {s : List Int} {k : Nat} (hk : k < s.length) (v : Int) (n : Nat) : (s.set k (s.getD k 0 + v)).getD n 0 = s.getD n 0 + if k = n then v else 0 := by
  rw [List.getD_eq_getElem?_getD, List.getElem?_set]
  by_cases e : k = n
  · subst e
    rw [if_pos rfl, if_pos hk, if_pos rfl]
    rfl
  · rw [if_neg e, if_neg e, Int.add_zero, List.getD_eq_getElem?_getD]
/-- lane n of what t pairs of a factor x at lane i have brought -/
def inn (x : Int) (i : Nat) (ps : List (Nat × Int)) (n : Nat) : Int := x * if i ≤ n then psum ps (n - i) else 0
theorem inn_snoc (x : Int) (i : Nat) (ps : List (Nat × Int)) (p : Nat × Int) (n : Nat) : inn x i (ps ++ [p]) n = inn x i ps n + if i + p.1 = n then x * p.2 else 0 := by
  unfold inn
  by_cases h : i ≤ n
  · rw [if_pos h, if_pos h, psum_append]
    show x * (_ + ((if p.1 = n - i then p.2 else 0) + 0)) = _
    rw [Int.add_zero, Int.mul_add]
    congr 1
    by_cases e : i + p.1 = n
    · rw [if_pos e, if_pos (by omega)]
    · rw [if_neg e, if_neg (by omega), Int.mul_zero]
  · rw [if_neg h, if_neg h, if_neg (by omega), Int.add_zero]
theorem inn_all (x : Int) (i : Nat) (ys : List Int) (n : Nat) : inn x i (prs ys ys.length) n = x * shl ys i n := by
  unfold inn shl
  rw [psum_all]
theorem list_of_get {a b : List Int} (hl : a.length = b.length) (h : ∀ n, a.getD n 0 = b.getD n 0) : a = b := by
  refine List.ext_getElem hl fun n h1 h2 => ?_
  have := h n
  rw [List.getD_eq_getElem?_getD, List.getD_eq_getElem?_getD, List.getElem?_eq_getElem h1, List.getElem?_eq_getElem h2] at this
  exact this
/-! ### a walk of a list or a tuple -/
def ItQ (K : PySem.W.Frag) : Bool → Addr → It
  | true, a => Itt K a
  | false, a => Itl K a
theorem walk_Q {K : PySem.W.Frag} {b : Bool} {a : Addr} {xs : List V} : Walk (ItQ K b a) xs.length (fun H => SqB K b H a xs) (YAt xs) := by
  cases b
  · exact walk_list
  · exact walk_tup
def iSqB (K : PySem.W.Frag) (tl : TE) : TI := fun σ H R => tl σ H fun x H1 => ∃ b a xs, x = .ref a ∧ SqB K b H1 a xs ∧ R (ItQ K b a) H1
theorem pi_sqB {X : Cx} {K : PySem.W.Frag} {tg l : Expr} {tl : TE} (hl : PE X l tl) (hK : X.K = K := by rfl) : PI X tg l (iSqB K tl) := by
  subst hK
  refine ⟨fun pins s σ H R I h => (pi_sq (tl := upE tl) hl.up).run pins s σ H R I ⟨_, h, fun x H1 z => ?_⟩⟩
  obtain ⟨b, a, xs, e, hq, r⟩ := z
  cases b
  · exact ⟨a, e, .inl ⟨xs, hq, r⟩⟩
  · exact ⟨a, e, .inr ⟨xs, hq, r⟩⟩
theorem lcN_at {K : PySem.W.Frag} {g : TG} {tt : TT} {te : TE} {vs : List Nat} {σ : L2.St} {H1 : Hp} {D : Addr} {Qd : Hp → Prop} {J : It} {n : Nat} {G : Hp → Prop} {xs : List V}
    (wk : Walk J n G (YAt xs)) (I : Nat → List V → Hp → Prop) (h0 : I 0 [] H1) (hl : ∀ i acc H, i ≤ n → I i acc H → H D = some (.lst acc) → G H)
    (hs : ∀ i x acc H, xs[i]? = some x → I i acc H → H D = some (.lst acc) → g x (wipe σ vs) H fun σ2 H2 => wipe σ2 vs = wipe σ vs ∧ tt σ2 H2 fun b H3 =>
      if b = true then te σ2 H3 fun y H4 => H4 D = some (.lst acc) ∧ acc.length < sizeLine ∧ ∀ H5, SameBut D H4 H5 → H5 D = some (.lst (acc ++ [y])) → I (i + 1) (acc ++ [y]) H5 else H3 D = some (.lst acc) ∧ I (i + 1) acc H3)
    (hd : ∀ acc H, I n acc H → H D = some (.lst acc) → Qd H) : LcGoal J g tt te vs σ H1 D Qd := by
  refine ⟨fun i m acc H => m = n - i ∧ i ≤ n ∧ I i acc H, ⟨n, by simp, Nat.zero_le _, h0⟩, ?_⟩
  rintro i m acc H ⟨rfl, hi, p⟩ eD
  have q := hl i acc H hi p eD
  rcases Nat.lt_or_ge i n with lt | ge
  · refine .inr ⟨wk.goes i H lt q, I (i + 1), fun acc' H' p' => ⟨n - (i + 1), by omega, rfl, lt, p'⟩, fun x H' y => ?_⟩
    obtain ⟨rfl, hx⟩ := wk.yields i H x H' lt q y
    exact hs i x acc _ hx p eD
  · obtain rfl : i = n := Nat.le_antisymm hi ge
    exact .inl ⟨wk.stops H q, hd acc H p eD⟩
theorem sum_le {B : Int} : ∀ {ws : List Int}, (∀ x ∈ ws, 0 ≤ x ∧ x ≤ B) → 0 ≤ ws.sum ∧ ws.sum ≤ ws.length * B
  | [], _ => ⟨Int.le_refl _, by simp⟩
  | x :: r, h => by
    have h1 := h x (List.mem_cons_self ..)
    have h2 := sum_le (ws := r) fun y hy => h y (List.mem_cons_of_mem _ hy)
    rw [List.sum_cons, List.length_cons]
    have e : ((r.length + 1 : Nat) : Int) * B = (r.length : Int) * B + B := by
      rw [Int.natCast_add, Int.add_mul]
      show _ + 1 * B = _
      rw [Int.one_mul]
    omega
end Pl

set_option Elab.async false
set_option linter.all false
set_option maxRecDepth 100000
set_option maxHeartbeats 2000000
namespace Pl
open PySem PySem.Spec PyProof.Rows L2 RZ
/-! ### x == y of an instance with an own __eq__: y such an instance, or a tuple -/
def rOwnEq (K : PySem.W.Frag) (C : Addr) (sp : Sp) (E : XK) : R2 := fun x y H Q => ∃ a dx fs b, x = .ref a ∧ y = .ref b ∧ H a = some (.ins C dx fs) ∧ ((∃ dy gs, H b = some (.ins C dy gs)) ∨ ∃ xs, SqT K H b xs) ∧ sp [.ref a, .ref b] H Q E
theorem op_ownEq {X : Cx} {CX : CXT} {K : PySem.W.Frag} {C f : Addr} {fd : FuncData} {ps : List Str} {sp : Sp} {E : XK} {k : Nat} (hm : Meth X.K C "__eq__" f) (ht : (PySem.W.subIn X.K (.type "tuple") (.ref C) == some false) = true)
    (F : FnOk X.prog X.w X.K X.mg X.base CX k f fd ps sp) (hr : Room k X.A) (hb : Binds X.K fd ps []) (hx : Passes CX X E) (hK : X.K = K := by rfl) : OpR X (compareOp .Eq) (rOwnEq K C sp E) := by
  subst hK
  have ht := eq_of_beq ht
  intro pins s σ H x' y v u Q I rx ry h
  obtain ⟨a, dx, fs, b, rfl, rfl, ha, hb', hsp⟩ := h
  cases rx
  cases ry
  obtain ⟨mA, J, _⟩ := ins_get I.hok ha
  obtain ⟨od, J, _⟩ := J.look
  obtain ⟨m, hF⟩ := I.fr
  have run := wpAny_mono (run_fn (us := [.ref a, .ref b]) (vs := [.ref a, .ref b]) F hr hb .nil hx I (.cons rfl (.cons rfl .nil)) hsp) (fun v s' q => cmpBack_of q) fun _ _ z => z
  rcases hb' with ⟨dy, gs, hb'⟩ | ⟨xs, hT⟩
  · obtain ⟨mB, J', _⟩ := ins_get I.hok hb'
    obtain ⟨od', J', _⟩ := J'.look
    exact PySem.W.cmp_K (op := .Eq) (tb := .ref C) hr.units0 hF I.ok.mod.kin J J'.type (by simp [PySem.W.notFirst]) hm.at_ hm.fn run
  · obtain ⟨its, rv, ⟨o, e, hc, _⟩, _⟩ := I.tuple hT
    refine PySem.W.cmp_K (op := .Eq) (tb := .type "tuple") hr.units0 hF I.ok.mod.kin J (fun A Q E s' kp q => wpAny_typeOf_ref (kp _ _ e) (by rw [hc]; exact q)) (by simp [PySem.W.notFirst, ht]) hm.at_ hm.fn run
/-! ### isinstance(x, C), x an instance of C or a tuple -/
def insB (K : PySem.W.Frag) (C : Addr) : Bool :=
  decide (PySem.W.findIn K (.ref C) "__class__" = some (some (.builtin "object.__class__"))) && (decide (PySem.W.specialIn K (.builtin "object.__class__") "__get__" = some (some (.builtin "getset_descriptor.__get__"))) &&
    ((PySem.W.takesIn K (.builtin "object.__class__") == some true) && ((PySem.W.mroIn K C (.type "object") == some true) && ((PySem.W.kitOne K (.ref C) (.ref C) == some true) && (PySem.W.kitOne K (.type "tuple") (.ref C) == some false)))))
def rIsiN (K : PySem.W.Frag) (C : Addr) : List V → Hp → VK → Prop := fun xs H Q => ∃ b, xs = [.ref b, .ref C] ∧ ((∃ dy gs, H b = some (.ins C dy gs) ∧ Q (.bl true) H) ∨ ∃ ys, SqT K H b ys ∧ Q (.bl false) H)
theorem call_isiK {X : Cx} {K : PySem.W.Frag} {C : Addr} (cl : Cls K C) (ib : insB K C = true) (hK : X.K = K := by rfl) : CallR X (.builtin "isinstance") (rIsiN K C) := by
  subst hK
  simp only [insB, Bool.and_eq_true, decide_eq_true_eq, beq_iff_eq] at ib
  obtain ⟨h1, h2, h3, h4, h5, h6⟩ := ib
  intro pins s σ H xs us Q I r h
  obtain ⟨b, rfl, h⟩ := h
  rcases h with ⟨dy, gs, hb, q⟩ | ⟨ys, hT, q⟩
  · exact call_isi pins s σ H _ us Q I r ⟨_, _, _, _, true, rfl, .own C, .base (.ins hb cl h1 h2 h3 h4), h5, q⟩
  · have ty : TyX X.K H (.ref b) (.type "tuple") := by
      rcases hT with (h | ⟨o, h⟩) | ⟨o, its, n, hk, hc, _⟩
      · exact .base (.tup h)
      · exact .fTuple h
      · exact .kTuple hk hc
    exact call_isi pins s σ H _ us Q I r ⟨_, _, _, _, false, rfl, .own C, ty, h6, q⟩
/-! ### lists of the same value at each width have the same entries -/
theorem bound_of (l : List Int) : ∃ m : Nat, ∀ x ∈ l, x.natAbs < 2 ^ m := by
  induction l with
  | nil => exact ⟨0, fun x h => by simp at h⟩
  | cons a l ih =>
    obtain ⟨m, hm⟩ := ih
    refine ⟨m + a.natAbs + 1, fun x h => ?_⟩
    rcases List.mem_cons.mp h with h | h
    · subst h
      exact Nat.lt_of_lt_of_le (Nat.lt_pow_self (by decide : 1 < 2)) (Nat.pow_le_pow_right (by decide) (by omega))
    · exact Nat.lt_of_lt_of_le (hm x h) (Nat.pow_le_pow_right (by decide) (by omega))
theorem val_inj {a b : List Int} (h : ∀ w, val a w = val b w) (i : Nat) : a.getD i 0 = b.getD i 0 := by
  obtain ⟨m, hm⟩ := bound_of (a ++ b)
  have bd : ∀ l : List Int, (∀ x ∈ l, x.natAbs < 2 ^ m) → balL (val l (m + 1)) (m + 1) (a.length + b.length) = ent l (a.length + b.length) := fun l hl => (bal_iff l (by omega) _).mpr fun i _ => by
    have := getD_small (Nat.pow_pos (by decide)) hl i
    show -(2 ^ m) ≤ _ ∧ _ < (2 : Int) ^ m
    have e : (2 : Int) ^ m = ((2 ^ m : Nat) : Int) := by rw [Int.natCast_pow] <;> rfl
    rw [e]
    omega
  have ea := bd a fun x hx => hm x (List.mem_append_left _ hx)
  have eb := bd b fun x hx => hm x (List.mem_append_right _ hx)
  rw [h, eb] at ea
  rcases Nat.lt_or_ge i (a.length + b.length) with lt | ge
  · have e := congrArg (fun l : List Int => l[i]?) ea
    unfold ent at e
    rw [List.getElem?_map, List.getElem?_map, List.getElem?_range lt] at e
    exact (Option.some.inj e).symm
  · rw [List.getD_eq_getElem?_getD, List.getD_eq_getElem?_getD, List.getElem?_eq_none (by omega), List.getElem?_eq_none (by omega)]
theorem stpN_last (xs : List Int) : ∀ n, stpN xs n = 0 ∨ xs.getD (stpN xs n - 1) 0 ≠ 0
  | 0 => .inl rfl
  | n + 1 => by
    have e : stpN xs (n + 1) = if xs.getD n 0 = 0 then stpN xs n else n + 1 := rfl
    rw [e]
    by_cases h : xs.getD n 0 = 0
    · rw [if_pos h]
      exact stpN_last xs n
    · rw [if_neg h]
      exact .inr (by rw [Nat.add_sub_cancel]; exact h)
theorem stp_len (xs : List Int) : (stp xs).length = stpN xs xs.length := by
  unfold stp
  rw [List.length_take]
  exact Nat.min_eq_left (stpN_le xs _)
theorem stp_le_of_get {a b : List Int} (h : ∀ i, a.getD i 0 = b.getD i 0) : (stp a).length ≤ (stp b).length := by
  rcases Nat.lt_or_ge (stp b).length (stp a).length with lt | ge
  · have e := stp_len a
    rcases stpN_last a a.length with z | z
    · omega
    · exfalso
      refine z ?_
      rw [← e, h, ← stp_get, List.getD_eq_getElem?_getD, List.getElem?_eq_none (by omega)]
      rfl
  · exact ge
theorem stp_of_get {a b : List Int} (h : ∀ i, a.getD i 0 = b.getD i 0) : stp a = stp b :=
  list_of_get (Nat.le_antisymm (stp_le_of_get h) (stp_le_of_get fun i => (h i).symm)) fun n => by rw [stp_get, stp_get, h]
theorem stp_of_val {a b : List Int} (h : ∀ w, val a w = val b w) : stp a = stp b := stp_of_get (val_inj h)
end Pl

set_option Elab.async false
set_option linter.all false
set_option maxRecDepth 100000
set_option maxHeartbeats 2000000
namespace Pl
open PySem PySem.Spec PyProof.Rows L2 RZ
/-! ### a step of a division, lane by lane -/
theorem drop_get (l : List Int) (k n : Nat) : (l.drop k).getD n 0 = l.getD (k + n) 0 := by
  rw [List.getD_eq_getElem?_getD, List.getD_eq_getElem?_getD, List.getElem?_drop]
theorem take_get (l : List Int) (k n : Nat) : (l.take k).getD n 0 = if n < k then l.getD n 0 else 0 := by
  rw [List.getD_eq_getElem?_getD, List.getElem?_take]
  split
  · rw [List.getD_eq_getElem?_getD]
  · rfl
theorem up_get (ys : List Int) (i n : Nat) : (List.replicate i (0 : Int) ++ ys).getD n 0 = shl ys i n := by
  unfold shl
  rw [List.getD_eq_getElem?_getD, List.getElem?_append, List.length_replicate]
  by_cases h : n < i
  · rw [if_pos h, if_neg (by omega), List.getElem?_replicate, if_pos h]
    rfl
  · rw [if_neg h, if_pos (by omega), List.getD_eq_getElem?_getD]
theorem shl_scale (x : Int) (ys : List Int) (i n : Nat) : shl (ys.map (x * ·)) i n = x * shl ys i n := by
  unfold shl
  split
  · exact map_get_scale x ys _
  · rw [Int.mul_zero]
theorem val_up (ys : List Int) (w : Nat) : ∀ i, val (List.replicate i (0 : Int) ++ ys) w = 2 ^ (w * i) * val ys w
  | 0 => by
    show val ys w = 2 ^ (w * 0) * val ys w
    rw [Nat.mul_zero, Int.pow_zero, Int.one_mul]
  | i + 1 => by
    show 0 + 2 ^ w * val (List.replicate i (0 : Int) ++ ys) w = _
    rw [val_up ys w i, Int.zero_add, ← Int.mul_assoc, ← Int.pow_add, Nat.mul_succ, Nat.add_comm]
theorem get_of {l : List Int} {n : Nat} (h : n < l.length) : l[n]? = some (l.getD n 0) := by
  rw [List.getD_eq_getElem?_getD, List.getElem?_eq_getElem h]
  rfl
theorem val_take_succ (l : List Int) (w : Nat) {n : Nat} (h : n < l.length) : val (l.take (n + 1)) w = val (l.take n) w + 2 ^ (w * n) * l.getD n 0 := by
  rw [take_snoc (get_of h), val_append, List.length_take, Nat.min_eq_left (Nat.le_of_lt h)]
  show _ + _ * (l.getD n 0 + 2 ^ w * 0) = _
  rw [Int.mul_zero, Int.add_zero]
theorem quot_step {ds L L' : List Int} {X : Int} {j top w : Nat} (hds : ds.length = top + 1) (hm : ds.getD top 0 = 1) (hL : j + 1 + top ≤ L.length) (hl : L'.length = L.length)
    (hg : ∀ n, L'.getD n 0 = L.getD n 0 - L.getD (j + top) 0 * shl (ds.take top) j n)
    (h : X = 2 ^ (w * (j + 1)) * val (L.drop (j + 1 + top)) w * val ds w + val (L.take (j + 1 + top)) w) :
    X = 2 ^ (w * j) * val (L'.drop (j + top)) w * val ds w + val (L'.take (j + top)) w := by
  have hdl : (ds.take top).length = top := by rw [List.length_take]; omega
  have e1 : L'.drop (j + top) = L.getD (j + top) 0 :: L.drop (j + 1 + top) := by
    refine list_of_get ?_ fun n => ?_
    · rw [List.length_drop, List.length_cons, List.length_drop]
      omega
    · rw [drop_get, hg, shl_out (.inr (by rw [hdl]; omega)), Int.mul_zero, Int.sub_zero]
      cases n with
      | zero => rfl
      | succ n =>
        show _ = (L.drop (j + 1 + top)).getD n 0
        rw [drop_get, show j + top + (n + 1) = j + 1 + top + n by omega]
  have e2 : val (L'.take (j + top)) w = val (L.take (j + top)) w + -L.getD (j + top) 0 * (2 ^ (w * j) * val (ds.take top) w) := by
    have key : val (L'.take (j + top)) w = val (addL (L.take (j + top)) (List.replicate j 0 ++ (ds.take top).map (-L.getD (j + top) 0 * ·))) w := by
      refine val_congr w (j + top + top) _ _ (by rw [List.length_take]; omega) ?_ fun n => ?_
      · rw [addL_length, List.length_take, List.length_append, List.length_replicate, List.length_map, hdl]
        omega
      · rw [addL_get, take_get, take_get, up_get, shl_scale]
        by_cases hn : n < j + top
        · rw [if_pos hn, if_pos hn, hg, Int.neg_mul, Int.sub_eq_add_neg]
        · rw [if_neg hn, if_neg hn, shl_out (.inr (by rw [hdl]; omega)), Int.mul_zero]
          rfl
    rw [key, val_addL, val_up, val_scale, Int.mul_left_comm]
  have e3 : val (L.take (j + 1 + top)) w = val (L.take (j + top)) w + 2 ^ (w * (j + top)) * L.getD (j + top) 0 := by
    rw [show j + 1 + top = (j + top) + 1 by omega, val_take_succ L w (by omega)]
  have e4 : val ds w = val (ds.take top) w + 2 ^ (w * top) := by
    have := val_take_succ ds w (n := top) (by omega)
    rw [List.take_of_length_le (by omega), hm, Int.mul_one] at this
    exact this
  have p1 : (2 : Int) ^ (w * (j + 1)) = 2 ^ (w * j) * 2 ^ w := by rw [Nat.mul_succ, Int.pow_add]
  have p2 : (2 : Int) ^ (w * (j + top)) = 2 ^ (w * j) * 2 ^ (w * top) := by rw [Nat.mul_add, Int.pow_add]
  rw [e1, e2]
  show X = 2 ^ (w * j) * (L.getD (j + top) 0 + 2 ^ w * val (L.drop (j + 1 + top)) w) * val ds w + _
  rw [h, e3, e4, p1, p2]
  generalize val (L.drop (j + 1 + top)) w = A
  generalize val (L.take (j + top)) w = T
  generalize val (ds.take top) w = D
  generalize L.getD (j + top) 0 = t
  generalize (2 : Int) ^ (w * j) = P
  generalize (2 : Int) ^ (w * top) = W
  generalize (2 : Int) ^ w = V
  grind
/-! ### quotient and rest are the only ones -/
theorem lead_zero {e ds : List Int} {top : Nat} (hdl : ds.length = top + 1) (hm : ds.getD top 0 = 1) (h : ∀ n, top ≤ n → conv (stp e) ds (stp e).length n = 0) : stp e = [] := by
  rcases Nat.eq_zero_or_pos (stp e).length with z | pos
  · exact List.eq_nil_of_length_eq_zero z
  · exfalso
    obtain ⟨k, hk⟩ : ∃ k, (stp e).length = k + 1 := ⟨(stp e).length - 1, by omega⟩
    have hlast : (stp e).getD k 0 ≠ 0 := by
      rw [stp_get]
      rcases stpN_last e e.length with z | z
      · have := stp_len e
        omega
      · rw [show k = stpN e e.length - 1 by have := stp_len e; omega]
        exact z
    have low : ∀ t, t ≤ k → conv (stp e) ds t (k + top) = 0 := by
      intro t
      induction t with
      | zero => intro _; rfl
      | succ t ih =>
        intro ht
        show conv (stp e) ds t (k + top) + _ * shl ds t (k + top) = 0
        rw [ih (by omega), shl_out (.inr (by omega)), Int.mul_zero]
        rfl
    have hz := h (k + top) (by omega)
    rw [hk] at hz
    have e1 : conv (stp e) ds (k + 1) (k + top) = conv (stp e) ds k (k + top) + (stp e).getD k 0 * shl ds k (k + top) := rfl
    have e2 : shl ds k (k + top) = 1 := by
      unfold shl
      rw [if_pos (by omega), show k + top - k = top by omega]
      exact hm
    rw [e1, low k (Nat.le_refl _), e2, Int.mul_one, Int.zero_add] at hz
    exact hlast hz
theorem quot_unique {ds q q' r r' : List Int} {top : Nat} (hdl : ds.length = top + 1) (hm : ds.getD top 0 = 1) (hr : r.length ≤ top) (hr' : r'.length ≤ top)
    (h : ∀ w, val q w * val ds w + val r w = val q' w * val ds w + val r' w) : stp q = stp q' ∧ stp r = stp r' := by
  have ve : ∀ w, val (addL q (q'.map (-1 * ·))) w = val q w - val q' w := fun w => by
    rw [val_addL, val_scale]
    omega
  have he : stp (addL q (q'.map (-1 * ·))) = [] := by
    refine lead_zero hdl hm fun n hn => ?_
    have key : ∀ n, (mulP (stp (addL q (q'.map (-1 * ·)))) ds).getD n 0 = (addL r' (r.map (-1 * ·))).getD n 0 := val_inj fun w => by
      rw [val_mulP, val_stp, ve, val_addL, val_scale]
      have := h w
      generalize val q w = a at *
      generalize val q' w = b at *
      generalize val ds w = d at *
      generalize val r w = x at *
      generalize val r' w = y at *
      grind
    rw [← mulP_get, key n, addL_get, map_get_scale, List.getD_eq_getElem?_getD, List.getD_eq_getElem?_getD, List.getElem?_eq_none (by omega), List.getElem?_eq_none (by omega)]
    rfl
  have hq : ∀ w, val q w = val q' w := fun w => by
    have h1 := ve w
    rw [← val_stp, he] at h1
    have h2 : (0 : Int) = val q w - val q' w := h1
    omega
  refine ⟨stp_of_val hq, stp_of_val fun w => ?_⟩
  have := h w
  rw [hq w] at this
  omega
end Pl

set_option Elab.async false
set_option linter.all false
set_option maxRecDepth 100000
set_option maxHeartbeats 2000000
namespace L2
open PySem PySem.Spec PyProof.Rows RZ
section
variable {X : Cx} {K : PySem.W.Frag}
/-- xs[lo::e], e a written number of any kind -/
theorem pe_slStepE {e es : Expr} {lo : Option Expr} {te ts : TE} {tl : TO} {j : Int} {p3 pos : Pos} (he : PE X e te) (hl : PO X lo tl) (hs : PE X es ts) (hts : ∀ σ H Q, Q (V.int j) H → ts σ H Q) (hj : j ≠ 0) (hK : X.K = K := by rfl) :
    PE X (.Subscript e (.Slice lo none (some es) p3) pos) (tSlStep K te tl j) := by
  subst hK
  refine ⟨fun pins s σ H Q I h => ?_⟩
  refine Subscript_ (thn (he.run pins s σ H _ I h) fun v s1 ⟨x, H1, I1, r1, q1⟩ => ?_)
  have hst : PO X (some es) (tPart ts) := po_some hs
  refine wpAny_Slice (thn (hl.run pins s1 σ H1 _ I1 q1) fun vl s2 ⟨l, H2, I2, pl, q2⟩ => ?_)
  obtain ⟨a, xs, ex, hx, q⟩ := q2
  subst ex
  cases r1
  refine thn (po_none.run pins s2 σ H2 (fun o H3 => o = none ∧ H3 = H2) I2 ⟨rfl, rfl⟩) fun vu s3 ⟨u, H3, I3, pu, eu, e3⟩ => ?_
  subst eu e3
  refine thn (hst.run pins s3 σ H3 (fun o H4 => o = some j ∧ H4 = H3) I3 (hts _ _ _ ⟨j, rfl, rfl, rfl⟩)) fun vs s4 ⟨o, H4, I4, ps, eo, e4⟩ => ?_
  subst eo e4
  have I5 : Inv X pins σ H4 { s4 with heap := s4.heap.push { cls := .type "slice", data := .fields #[vl, vu, vs] } } := I4.kept (t' := s4.toks) fun b ob q => Heap.get?_push_of_some _ q
  obtain ⟨its, r, ht, hz⟩ := I5.list hx
  have hlen := r.length
  show wpAny (model X.prog X.w) X.A (subscriptTail e (.Slice lo none (some es) p3) (.ref a) (.ref s4.heap.objs.size)) (EP X pins σ Q) X.xe { s4 with heap := s4.heap.push { cls := .type "slice", data := .fields #[vl, vu, vs] } }
  refine tail_any (ops := [.ref a, .ref s4.heap.objs.size]) ht.isList.typeIs (PySem.slot_list_getitem.lookup) ?_ (by with_unfolding_all rfl)
  refine wpAny_getItem_list_slice ht.isList (Heap.IsSliceOf.new _ vl vu vs) pl pu ps (by simpa using hj) ?_ (by rw [List.size_toArray]; omega)
  have e : slicePick its.toArray l none (some j) = ((sliceRange (sliceBounds l none (some j) xs.length).1 (sliceBounds l none (some j) xs.length).2.1 (sliceBounds l none (some j) xs.length).2.2).filterMap (its[·]?)).toArray := by
    unfold slicePick
    rw [List.size_toArray, ← hlen]
    simp
  have hle : (slicePick its.toArray l none (some j)).size ≤ its.toArray.size := slicePick_size_le _ _ _ _
  rw [e] at hle ⊢
  have vp := vals_pick r (sliceRange (sliceBounds l none (some j) xs.length).1 (sliceBounds l none (some j) xs.length).2.1 (sliceBounds l none (some j) xs.length).2.2)
  refine ⟨.ref _, _, I5.laid (t' := s4.toks) (o := .lst (pickV xs l j)) (fun b ob q => Heap.get?_push_of_some _ q) (Nat.le_refl _) ?_, rfl, q.go _ (I5.hok.fresh (Nat.le_refl _))⟩
  refine ⟨?_, _, 0, vp, Heap.get?_push_size _ rfl⟩
  have h2 : (pickV xs l j).length = _ := vp.length
  rw [h2]
  rw [List.size_toArray, List.size_toArray] at hle
  omega
/-- xs[::-1] -/
theorem pe_slRev {e : Expr} {te : TE} {k : Nat} {p1 p2 p3 pos : Pos} (he : PE X e te) (hK : X.K = K := by rfl) :
    PE X (.Subscript e (.Slice none none (some (.UnaryOp .USub (.Constant (.int 1) k p1) p2)) p3) pos) (tSlStep K te tNoPart (-1)) :=
  pe_slStepE he po_none (pe_un un_neg pe_int) (fun σ H Q q => ⟨1, rfl, q⟩) (by decide) hK
end
theorem pick_rev (xs : List V) : pickV xs none (-1) = xs.reverse := by
  have e : pickV xs none (-1) = ((List.range xs.length).map fun i => xs.length - 1 - i).filterMap (xs[·]?) := by
    unfold pickV sliceBounds sliceRange
    simp only [Option.getD_some, Option.getD_none]
    congr 1
    cases hn : xs.length with
    | zero => simp
    | succ n =>
      simp
      try congr 1
      all_goals first
        | omega
        | (funext i; omega)
        | (congr 1; omega)
  rw [e]
  refine List.ext_getElem? fun i => ?_
  rw [pick_by xs (fun i => xs.length - 1 - i) _ (fun i hi => by omega)]
  split
  · rename_i h
    rw [List.getElem?_reverse h]
  · rw [List.getElem?_eq_none (by simp; omega)]
theorem pick_evens0 (xs : List V) : pickV xs (some 0) 2 = Pl.evens xs := by
  rw [← pick_evens]
  unfold pickV sliceBounds
  simp
  rw [show max (0 : Int) (min 0 (xs.length : Int)) = 0 by omega]
end L2
namespace Pl
/-! ### division by (-c, 1), by (-1, 0, 1) -/
def hor (c : Int) : List Int → Int
  | [] => 0
  | x :: r => x + c * hor c r
def horQ (c : Int) : List Int → List Int
  | [] => []
  | _ :: r => hor c r :: horQ c r
theorem hor_div (c : Int) (w : Nat) : ∀ xs, val xs w = val (horQ c xs) w * val [-c, 1] w + val [hor c xs] w
  | [] => by
    show (0 : Int) = 0 * _ + (0 + 2 ^ w * 0)
    rw [Int.zero_mul, Int.mul_zero]
    rfl
  | x :: r => by
    have ih := hor_div c w r
    show x + 2 ^ w * val r w = (hor c r + 2 ^ w * val (horQ c r) w) * (-c + 2 ^ w * (1 + 2 ^ w * 0)) + (x + c * hor c r + 2 ^ w * 0)
    have ih2 : val r w = val (horQ c r) w * (-c + 2 ^ w * (1 + 2 ^ w * 0)) + (hor c r + 2 ^ w * 0) := ih
    generalize val r w = A at *
    generalize val (horQ c r) w = B at *
    generalize hor c r = h at *
    generalize (2 : Int) ^ w = V at *
    subst ih2
    grind
theorem hor_one : ∀ xs, hor 1 xs = xs.sum
  | [] => rfl
  | x :: r => by
    show x + 1 * hor 1 r = _
    rw [hor_one r, Int.one_mul, List.sum_cons]
def twoQ : List Int → List Int
  | _ :: _ :: r => (evens r).sum :: (odds r).sum :: twoQ r
  | _ => []
theorem two_div (w : Nat) : ∀ xs, val xs w = val (twoQ xs) w * val [-1, 0, 1] w + val [(evens xs).sum, (odds xs).sum] w
  | [] => by
    show (0 : Int) = 0 * _ + (0 + 2 ^ w * (0 + 2 ^ w * 0))
    simp
  | [a] => by
    show a + 2 ^ w * 0 = 0 * _ + (([a] : List Int).sum + 2 ^ w * (([] : List Int).sum + 2 ^ w * 0))
    simp
  | a :: b :: r => by
    have ih := two_div w r
    show a + 2 ^ w * (b + 2 ^ w * val r w) = ((evens r).sum + 2 ^ w * ((odds r).sum + 2 ^ w * val (twoQ r) w)) * (-1 + 2 ^ w * (0 + 2 ^ w * (1 + 2 ^ w * 0))) + ((a :: evens r).sum + 2 ^ w * ((b :: odds r).sum + 2 ^ w * 0))
    have ih2 : val r w = val (twoQ r) w * (-1 + 2 ^ w * (0 + 2 ^ w * (1 + 2 ^ w * 0))) + ((evens r).sum + 2 ^ w * ((odds r).sum + 2 ^ w * 0)) := ih
    rw [List.sum_cons, List.sum_cons]
    generalize val r w = A at *
    generalize val (twoQ r) w = B at *
    generalize (evens r).sum = h at *
    generalize (odds r).sum = g at *
    generalize (2 : Int) ^ w = V at *
    subst ih2
    grind
/-- worth * c + entry, from the last entry on -/
theorem hor_fold (c : Int) : ∀ xs : List Int, xs.reverse.foldl (fun a x => a * c + x) 0 = hor c xs
  | [] => rfl
  | x :: r => by
    rw [List.reverse_cons, List.foldl_append, hor_fold c r]
    show hor c r * c + x = x + c * hor c r
    rw [Int.mul_comm, Int.add_comm]
/-- the signs by turns -/
theorem hor_alt : ∀ (xs : List Int) (s : Int), (s = 1 ∨ s = -1) → (List.zipWith (· * ·) xs ((List.range xs.length).map fun k : Nat => s * (1 - 2 * ((k : Int) % 2)))).sum = s * hor (-1) xs
  | [], s, _ => by simp [hor]
  | x :: r, s, hs => by
    have ih := hor_alt r (-s) (by omega)
    rw [List.length_cons, List.range_succ_eq_map, List.map_cons, List.map_map, List.zipWith_cons_cons, List.sum_cons]
    have e : ((fun k : Nat => s * (1 - 2 * ((k : Int) % 2))) ∘ Nat.succ) = fun k : Nat => -s * (1 - 2 * ((k : Int) % 2)) := by
      funext k
      show s * (1 - 2 * (((k + 1 : Nat) : Int) % 2)) = -s * (1 - 2 * ((k : Int) % 2))
      rcases hs with rfl | rfl <;> omega
    rw [e, ih]
    show x * (s * (1 - 2 * (((0 : Nat) : Int) % 2))) + -s * hor (-1) r = s * (x + -1 * hor (-1) r)
    rcases hs with rfl | rfl <;> simp <;> omega
theorem stp_small {xs : List Int} {A : Nat} (h : ∀ x ∈ xs, x.natAbs < A) : ∀ x ∈ stp xs, x.natAbs < A := fun x hx => h x (List.mem_of_mem_take hx)
theorem stp_monic {ds : List Int} {top : Nat} (hl : ds.length = top + 1) (hm : ds.getD top 0 = 1) : stp ds = ds := by
  unfold stp
  rw [hl, stpN_stop (.inr (by rw [Nat.add_sub_cancel, hm]; decide)), ← hl, List.take_length]
/-- the number modulo B - 1 -/
theorem val_mod (xs : List Int) (w : Nat) : val xs w % (2 ^ w - 1) = xs.sum % (2 ^ w - 1) := by
  have h := hor_div 1 w xs
  rw [hor_one] at h
  have e1 : val [-1, 1] w = 2 ^ w - 1 := by
    show -1 + 2 ^ w * (1 + 2 ^ w * 0) = _
    rw [Int.mul_zero, Int.add_zero, Int.mul_one, Int.add_comm, Int.sub_eq_add_neg]
  have e2 : val [xs.sum] w = xs.sum := by
    show xs.sum + 2 ^ w * 0 = _
    rw [Int.mul_zero, Int.add_zero]
  rw [e1, e2] at h
  rw [h, Int.add_comm, Int.mul_comm, Int.add_mul_emod_self_left]
theorem sum_append (a b : List Int) : (a ++ b).sum = a.sum + b.sum := by
  induction a with
  | nil => exact (Int.zero_add _).symm
  | cons x a ih =>
    rw [List.cons_append, List.sum_cons, List.sum_cons, ih, Int.add_assoc]
def trms (xs : List Int) (w : Nat) : List Int := (List.range xs.length).map fun k => xs.getD k 0 * 2 ^ (w * k)
theorem trms_get {xs : List Int} {w k : Nat} (h : k < xs.length) : (trms xs w)[k]? = some (xs.getD k 0 * 2 ^ (w * k)) := by
  unfold trms
  rw [List.getElem?_map, List.getElem?_range h]
  rfl
theorem trms_length (xs : List Int) (w : Nat) : (trms xs w).length = xs.length := by simp [trms]
theorem sum_trms (xs : List Int) (w : Nat) : (trms xs w).sum = val xs w := by
  have key : ∀ n, n ≤ xs.length → ((trms xs w).take n).sum = val (xs.take n) w := by
    intro n
    induction n with
    | zero => intro _; rfl
    | succ n ih =>
      intro h
      have hx : xs[n]? = some (xs.getD n 0) := by rw [List.getD_eq_getElem?_getD, List.getElem?_eq_getElem (by omega)] <;> rfl
      rw [take_snoc (trms_get (by omega)), sum_append, ih (by omega), take_snoc hx, val_append, List.length_take, Nat.min_eq_left (by omega)]
      show _ + (_ + 0) = _ + _ * (xs.getD n 0 + 2 ^ w * 0)
      rw [Int.mul_zero, Int.add_zero, Int.add_zero, Int.mul_comm (2 ^ (w * n))]
  have := key xs.length (Nat.le_refl _)
  rwa [List.take_of_length_le (by rw [trms_length]; exact Nat.le_refl _), List.take_of_length_le (Nat.le_refl _)] at this
theorem horQ_get (c : Int) : ∀ (xs : List Int) (i : Nat), i < xs.length → (horQ c xs)[i]? = some (hor c (xs.drop (i + 1)))
  | [], i, h => absurd h (Nat.not_lt_zero _)
  | x :: r, 0, _ => rfl
  | x :: r, i + 1, h => by
    show (horQ c r)[i]? = some (hor c (r.drop (i + 1)))
    exact horQ_get c r i (Nat.lt_of_succ_lt_succ h)
theorem horQ_length (c : Int) : ∀ xs : List Int, (horQ c xs).length = xs.length
  | [] => rfl
  | x :: r => by
    show (horQ c r).length + 1 = r.length + 1
    rw [horQ_length c r]
/-- division by 0, .., 0, 1 -/
theorem up_div (xs : List Int) (m w : Nat) : val xs w = val (xs.drop m) w * val (List.replicate m 0 ++ [1]) w + val (xs.take m) w := by
  rw [val_up]
  show _ = _ * (2 ^ (w * m) * (1 + 2 ^ w * 0)) + _
  rw [Int.mul_zero, Int.add_zero, Int.mul_one]
  rcases Nat.lt_or_ge xs.length m with h | h
  · rw [List.drop_of_length_le (by omega), List.take_of_length_le (by omega)]
    show _ = 0 * _ + _
    rw [Int.zero_mul, Int.zero_add]
  · have e := congrArg (fun l => val l w) (List.take_append_drop m xs)
    simp only [val_append, List.length_take, Nat.min_eq_left h] at e
    rw [← e, Int.mul_comm, Int.add_comm]
theorem stp_take (xs : List Int) (m : Nat) : stp ((stp xs).take m) = stp (xs.take m) := stp_of_get fun i => by
  rw [take_get, take_get, stp_get]
theorem stp_drop (xs : List Int) (m : Nat) : stp ((stp xs).drop m) = stp (xs.drop m) := stp_of_get fun i => by
  rw [drop_get, drop_get, stp_get]
end Pl

set_option Elab.async false
set_option linter.all false
set_option maxRecDepth 100000
set_option maxHeartbeats 2000000
/-! a head's facts with defs at any address and a Bool of one's own; properties, staticmethods, own signs -/
namespace Pl
open PySem PySem.Spec PyProof.Rows L2 RZ
abbrev AlB : Type := He.AlD × Bool
def obsBK (fa : List He.Fa) (fn : List He5.DefA) (ex : PySem.W.Frag → Bool) (K : PySem.W.Frag) : AlB := (He5.obsA fa fn K, ex K)
def obsB (n : Nat) (fa : List He.Fa) (fn : List He5.DefA) (ex : PySem.W.Frag → Bool) (g : Addr → Option Obj) : AlB := obsBK fa fn ex (He.frG g (He5.asA g n))
def SaysB (fa : List He.Fa) (fn : List He5.DefA) (ex : PySem.W.Frag → Bool) (K : PySem.W.Frag) : Prop := obsBK fa fn ex K = (He5.valA fn, true)
def hookB (n : Nat) (fa : List He.Fa) (fn : List He5.DefA) (ex : PySem.W.Frag → Bool) : PySem.W.Hook where
  α := AlB
  obs := fun s => obsB n fa fn ex s.heap.get?
  val := fun _ => (He5.valA fn, true)
  says := fun _ h => ∃ K : PySem.W.Frag, K.In h ∧ SaysB fa fn ex K
  of := fun _ _ e => ⟨_, He.frG_in, e⟩
  keeps := fun _ _ _ ⟨K, hK, c⟩ k => ⟨K, PySem.W.Frag.In.keeps hK k, c⟩
theorem obsB_eq {n : Nat} {fa : List He.Fa} {fn : List He5.DefA} {ex : PySem.W.Frag → Bool} {g : Addr → Option Obj} {s : Shared} (h : ∀ a, g a = s.heap.get? a) : obsB n fa fn ex g = (hookB n fa fn ex).obs s := by
  have e : g = s.heap.get? := funext h
  rw [e] <;> rfl
section
variable {fa : List He.Fa} {fn : List He5.DefA} {ex : PySem.W.Frag → Bool} {K : PySem.W.Frag}
theorem SaysB.a (c : SaysB fa fn ex K) : He5.SaysA fa fn K := congrArg (fun z : AlB => z.1) c
theorem SaysB.more (c : SaysB fa fn ex K) : ex K = true := congrArg (fun z : AlB => z.2) c
end
/-! ### a property -/
def propB (K : PySem.W.Frag) (C : Addr) (f : Str) : Bool :=
  He.eqO (PySem.W.findIn K (.ref C) f) (some (some (.ref (He.ma K C f)))) && (He.eqO (PySem.W.specialIn K (.ref (He.ma K C f)) "__get__") (some (some (.builtin "property.__get__"))) && (decide (PySem.W.takesIn K (.ref (He.ma K C f)) = some true) && (match PySem.W.recIn K (He.ma K C f) "property" with
    | some (.ref _ :: _) => true
    | _ => false)))
theorem propB_ok {K : PySem.W.Frag} {C : Addr} {f : Str} (h : propB K C f = true) : PropOf K C f (He.ma K C f) (He5.wf K C "property" f) := by
  obtain ⟨h1, h⟩ := He.ba h
  obtain ⟨h2, h⟩ := He.ba h
  obtain ⟨h3, h4⟩ := He.ba h
  refine ⟨He.eqO_ok h1, He.eqO_ok h2, of_decide_eq_true h3, ?_⟩
  unfold He5.wf
  split at h4
  · rename_i g r e
    exact ⟨r, by rw [e]⟩
  · cases h4
/-! ### a staticmethod, called off its class -/
structure SMet (K : PySem.W.Frag) (C : Addr) (m : Str) (p g : Addr) : Prop where
  rd : PySem.W.readsIn K C (.type "type") = true
  ga : PySem.W.specialIn K (.ref C) "__getattribute__" = some (some (.builtin "type.__getattribute__"))
  at_ : PySem.W.findCls K (.ref C) (.type "type") m = some (.get (.builtin "staticmethod.__get__") (.ref p) .none (.ref C))
  rc : ∃ rest, PySem.W.recIn K p "staticmethod" = some (.ref g :: rest)
def smetB (K : PySem.W.Frag) (C : Addr) (m : Str) : Bool := PySem.W.readsIn K C (.type "type") && (He.eqO (PySem.W.specialIn K (.ref C) "__getattribute__") (some (some (.builtin "type.__getattribute__"))) && He5.wrapB K C "staticmethod" "staticmethod.__get__" m)
theorem smetB_ok {K : PySem.W.Frag} {C : Addr} {m : Str} (h : smetB K C m = true) : SMet K C m (He.ma K C m) (He5.wf K C "staticmethod" m) := by
  obtain ⟨h1, h⟩ := He.ba h
  obtain ⟨h2, h3⟩ := He.ba h
  obtain ⟨h4, h5⟩ := He5.wrapB_ok h3
  exact ⟨h1, He.eqO_ok h2, h4, h5⟩
def tSMeth (C : Addr) (sp : Sp) (E : XK) (ta : TE) (t : TA) : TE := fun σ H Q => ta σ H fun x H1 => x = .ref C ∧ t σ H1 fun vs H2 => sp vs H2 Q E
theorem pe_smeth {X : Cx} {CX : CXT} {k : Nat} {C p g : Addr} {sp : Sp} {E : XK} {o e : Expr} {es : List Expr} {m : Str} {pos apos : Pos} {ta : TE} {t : TA} {pl : Sem Bool} {fd : FuncData} {ps : List Str} (he : PE X o ta) (c : SMet X.K C m p g)
    (F : FnOk X.prog X.w X.K X.mg X.base CX k g fd ps sp) (hr : Room k X.A) (hk : PySem.W.keepIn X.K (.ref g) = true) (hb : Binds X.K fd ps []) (hx : Passes CX X E) (ha : PA X (e :: es) t)
    (hst : starEach (e :: es) X.env = (false, eval e X.env) :: starEach es X.env := by rfl) (hpl : (backTo pos (starEach es X.env)).any (·.1) = false := by rfl)
    (ht : eval (.Call (.Attribute o m apos) (e :: es) [] pos) X.env = (do
      let ov ← eval o X.env
      standAt apos.atName
      let (f, first) ← holding [ov] (getMethod ov m pl)
      callWith pos f first (backTo pos (starEach (e :: es) X.env)) (backToKw pos (keywordEach [] X.env))) := by rfl) :
    PE X (.Call (.Attribute o m apos) (e :: es) [] pos) (tSMeth C sp E ta t) := by
  refine ⟨fun pins s σ H Q I h => ?_⟩
  refine PySem.W.methodCall_KW (pl := pl) (thn (he.run pins s σ H _ I h) fun u s1 ⟨x, H1, I1, rx, ex, q⟩ => ?_) ht
  subst ex
  obtain rfl : u = Value.ref C := rx
  obtain ⟨rest, hp⟩ := c.rc
  refine PySem.W.method_cls I1.kIn c.ga (PySem.W.cls_bind I1.kIn c.rd c.at_ (wpAny_call (PySem.W.sm_get (s := { s1 with toks := s1.toks + 1 }) I1.kIn hp (PySem.W.handed_on rfl ?_))))
  refine PySem.W.callWith_K (h₀ := X.base) I.ok.mod.kin hk (thn (ha.run pos pins _ σ H1 _ (I1.tok _) q) fun us s2 ⟨vs, H2, I2, r, q2⟩ => ⟨I2.kIn, ?_⟩) hst hpl
  exact run_fn F hr hb .nil hx I2 r (by rw [List.append_nil]; exact q2)
/-! ### own signs -/
def rUnOwn (C : Addr) (sp : Sp) (E : XK) : V → Hp → VK → Prop := fun x H Q => ∃ a dx fs, x = .ref a ∧ H a = some (.ins C dx fs) ∧ sp [.ref a] H Q E
section
variable {X : Cx} {CX : CXT} {C f : Addr} {fd : FuncData} {ps : List Str} {sp : Sp} {E : XK} {k : Nat}
theorem un_ownNeg (hm : Meth X.K C "__neg__" f) (F : FnOk X.prog X.w X.K X.mg X.base CX k f fd ps sp) (hr : Room k X.A) (hb : Binds X.K fd ps []) (hx : Passes CX X E) : UnR X (unaryOp .USub) (rUnOwn C sp E) := by
  intro pins s σ H x v Q I rx h
  obtain ⟨a, dx, fs, rfl, ha, hsp⟩ := h
  cases rx
  obtain ⟨mA, J, _⟩ := ins_get I.hok ha
  obtain ⟨od, J, _⟩ := J.look
  obtain ⟨m, hF⟩ := I.fr
  exact PySem.W.ksp_neg hF I.ok.mod.kin J hm.at_ hm.fn (run_fn (us := [.ref a]) (vs := [.ref a]) F hr hb .nil hx I (.cons rfl .nil) hsp)
theorem un_ownInv (hm : Meth X.K C "__invert__" f) (F : FnOk X.prog X.w X.K X.mg X.base CX k f fd ps sp) (hr : Room k X.A) (hb : Binds X.K fd ps []) (hx : Passes CX X E) : UnR X (unaryOp .Invert) (rUnOwn C sp E) := by
  intro pins s σ H x v Q I rx h
  obtain ⟨a, dx, fs, rfl, ha, hsp⟩ := h
  cases rx
  obtain ⟨mA, J, _⟩ := ins_get I.hok ha
  obtain ⟨od, J, _⟩ := J.look
  obtain ⟨m, hF⟩ := I.fr
  exact PySem.W.ksp_inv hF I.ok.mod.kin J hm.at_ hm.fn (run_fn (us := [.ref a]) (vs := [.ref a]) F hr hb .nil hx I (.cons rfl .nil) hsp)
/-- x op i, i an int -/
def rOwnI (C : Addr) (sp : Sp) (E : XK) : R2 := fun x y H Q => ∃ a dx fs i, x = .ref a ∧ y = .int i ∧ H a = some (.ins C dx fs) ∧ sp [.ref a, .int i] H Q E
def ownIB (K : PySem.W.Frag) (C : Addr) (op : Operator) : Bool := PySem.W.selfFirst K C && ((match PySem.W.findIn K (.ref C) (dunderR op.info.2) with
    | some none => true
    | some (some (.ref _)) => true
    | _ => false) && ((PySem.W.findIn K (.type "int") (PySem.dunder op.info.2)).isSome && ((PySem.W.findIn K (.type "int") (dunderR op.info.2)).isSome && decide (PySem.W.subIn K (.type "int") (.ref C) = some false))))
theorem op_ownI {op : Operator} {x : Str} (hm : Meth X.K C x f) (hB : ownIB X.K C op = true) (F : FnOk X.prog X.w X.K X.mg X.base CX k f fd ps sp) (hr : Room k X.A) (hb : Binds X.K fd ps []) (hx : Passes CX X E)
    (hn : PySem.dunder op.info.2 = x := by first | rfl | decide +kernel) : OpR X (binaryOp op) (rOwnI C sp E) := by
  intro pins s σ H x' y v u Q I rx ry h
  obtain ⟨a, dx, fs, i, rfl, rfl, ha, hsp⟩ := h
  cases rx
  obtain ⟨t, rfl⟩ := ry
  obtain ⟨mA, J, _⟩ := ins_get I.hok ha
  obtain ⟨od, J, _⟩ := J.look
  obtain ⟨m, hF⟩ := I.fr
  subst hn
  obtain ⟨h1, hB⟩ := He.ba hB
  obtain ⟨h2, hB⟩ := He.ba hB
  obtain ⟨h3, hB⟩ := He.ba hB
  obtain ⟨h4, h5⟩ := He.ba hB
  obtain ⟨fo, hfo⟩ := Option.isSome_iff_exists.mp h3
  obtain ⟨ro, hro⟩ := Option.isSome_iff_exists.mp h4
  obtain ⟨rc, hrc, hp⟩ : ∃ rc, PySem.W.findIn X.K (.ref C) (dunderR op.info.2) = some rc ∧ (rc = none ∨ ∃ g : Addr, rc = some (.ref g)) := by
    split at h2
    · rename_i e
      exact ⟨_, e, .inl rfl⟩
    · rename_i g e
      exact ⟨_, e, .inr ⟨g, rfl⟩⟩
    · cases h2
  refine PySem.W.ksp_binT (T := "int") hF I.ok.mod.kin J (show typeOf (.int i t) = pure (.type "int") from rfl) h1 hm.at_ hm.fn hrc hp hfo hro (of_decide_eq_true h5) ?_
  exact wpAny_mono (run_fn (us := [.ref a, .int i t]) (vs := [.ref a, .int i]) F hr hb .nil hx I (.cons rfl (.cons ⟨_, rfl⟩ .nil)) hsp) (fun v s' q => cmpBack_of q) fun _ _ z => z
end
/-! ### list(range(..)) -/
def tLstRgN (te : L2.St → Hp → (Int → Int → Hp → Prop) → Prop) : TE := fun σ H Q => te σ H fun a b H1 => RgOk a b ∧ NewL (rgV a b) H1 Q
theorem pe_listRgN {X : Cx} {e : Expr} {te : L2.St → Hp → (Int → Int → Hp → Prop) → Prop} {p pos : Pos} (hc : X.calm = true) (hg : Gl X "list") (hm : X.mg "list" = none) (he : PRg X e te) (na : starEach [e] X.env = (false, eval e X.env) :: starEach [] X.env := by rfl) :
    PE X (.Call (.Name "list" p) [e] [] pos) (tLstRgN te) := by
  have he' : PRg X e (fun σ H Q => ∃ Q0 : Int → Int → Hp → Prop, te σ H Q0 ∧ ∀ a b H1, Q0 a b H1 → Q a b H1) := fun pins s σ H Q I ⟨Q0, h, f⟩ => thn (he pins s σ H Q0 I h) fun x s' ⟨r, a, b, t, u, v, H', e1, e2, e3, e4⟩ => ⟨r, a, b, t, u, v, H', e1, e2, e3, f _ _ _ e4⟩
  exact (pe_listRg hc hg hm he' na).imp fun σ H Q h => ⟨_, h, fun a b H1 z => ⟨z.1, z.2.go⟩⟩
theorem rgV_ints (n : Nat) : rgV 0 (n : Int) = ((List.range n).map fun k : Nat => (k : Int)).map V.int := by
  unfold rgV
  rw [List.map_map, Int.sub_zero, Int.toNat_natCast]
  refine List.map_congr_left fun k _ => ?_
  show V.int (0 + (k : Int)) = V.int (k : Int)
  rw [Int.zero_add]
/-! ### a or b by truth, where both ways meet -/
def tOrTJ (K : PySem.W.Frag) (ta tb : TE) : TE := fun σ H Q => ∃ J : V → Hp → Prop, (ta σ H fun x H1 => ∃ k, TruV K x H1 k ∧ if k = true then J x H1 else tb σ H1 J) ∧ ∀ v H', J v H' → Q v H'
theorem pe_orTJ {X : Cx} {K : PySem.W.Frag} {a b : Expr} {rest : List Expr} {ta tb : TE} {pos : Pos} (ha : PE X a ta) (hb : PE X (.BoolOp .Or (b :: rest) pos) tb) (hK : X.K = K := by rfl) : PE X (.BoolOp .Or (a :: b :: rest) pos) (tOrTJ K ta tb) := by
  subst hK
  exact ⟨fun pins s σ H Q I ⟨J, h, f⟩ => thn ((pe_orT ha hb).run pins s σ H J I h) fun u s1 ⟨v, H1, I1, r, q⟩ => ⟨v, H1, I1, r, f _ _ q⟩⟩
/-- x, (y, z) -/
theorem pg_nest {X : Cx} {K : PySem.W.Frag} {i j k : Nat} {x y z : Str} {p1 p2 p3 p4 pos : Pos} {kk k2 : Nat} (hc : X.calm = true) (hN : X.N.Nodup) (hi : X.N[i]? = some x) (hj : X.N[j]? = some y) (hk : X.N[k]? = some z) (hx : Loc X.env.scope x) (hy : Loc X.env.scope y) (hz : Loc X.env.scope z)
    (hf : X.fn x = true ∨ X.env.scope.names.lookup x = some .local := by first | exact .inl rfl | exact .inr rfl | assumption) (hf2 : X.fn y = true ∨ X.env.scope.names.lookup y = some .local := by first | exact .inl rfl | exact .inr rfl | assumption) (hf3 : X.fn z = true ∨ X.env.scope.names.lookup z = some .local := by first | exact .inl rfl | exact .inr rfl | assumption) (hK : X.K = K := by rfl) :
    PG X (.Tuple [.Name x p1, .Tuple [.Name y p2, .Name z p3] k2 p4] kk pos) (gTup K 2 (gCons (gName i) (gCons (gTup K 2 (gCons (gName j) (gCons (gName k) gNil))) gNil))) :=
  hK ▸ pg_tup hc (pgs_cons (pg_name hN hi hx hf) (pgs_cons (pg_tup hc (pgs_cons (pg_name hN hj hy hf2) (pgs_cons (pg_name hN hk hz hf3) pgs_nil))) pgs_nil))
/-! ### x, y, z = a, b, c with plain local names; a cut in a block -/
def tPar3 (i j k : Nat) (ta : TA) : TS := fun D σ H => ta σ H fun vs H1 => ∃ v w z, vs = [v, w, z] ∧ D.nx (((σ.set i (some v)).set j (some w)).set k (some z)) H1
theorem ps_par3 {X : Cx} {i j k : Nat} {x y z : Str} {a b c : Expr} {ta : TA} {px py pz pt pos : Pos} {kt k2 pt2} (hc : X.calm = true) (hN : X.N.Nodup) (hi : X.N[i]? = some x) (hj : X.N[j]? = some y) (hk : X.N[k]? = some z) (hij : i ≠ j) (hik : i ≠ k) (hjk : j ≠ k)
    (hx : X.env.scope.names.lookup x = some .local) (hy : X.env.scope.names.lookup y = some .local) (hz : X.env.scope.names.lookup z = some .local) (ha : PA X [a, b, c] ta)
    (hw : swappedStores [.Tuple [.Name x px, .Name y py, .Name z pz] kt pt] (.Tuple [a, b, c] k2 pt2) X.env = pure (some [x, y, z]))
    (hs : swapsWithSole [.Tuple [.Name x px, .Name y py, .Name z pz] kt pt] (.Tuple [a, b, c] k2 pt2) pos.line X.env = pure false := by rfl) :
    PS X (.Assign [.Tuple [.Name x px, .Name y py, .Name z pz] kt pt] (.Tuple [a, b, c] k2 pt2) pos) (tPar3 i j k ta) := by
  refine ⟨fun pins s σ H D I h => ?_⟩
  rw [exec_Assign_arm]
  refine wpAny_bind (wpAny_standAt ?_)
  rw [hs]
  refine wpAny_bind (wpAny_pure ?_)
  rw [if_neg (by decide)]
  refine wpAny_bind (Tuple_ (thn (ha.run _ pins s σ H _ I h) fun us s1 ⟨vs, H1, I1, r1, q1⟩ => ?_))
  obtain ⟨v, w, u, e1, q1⟩ := q1
  subst e1
  obtain ⟨u1, u2, u3, rfl, rv, rw', ru⟩ : ∃ u1 u2 u3, us = [u1, u2, u3] ∧ RelV v u1 ∧ RelV w u2 ∧ RelV u u3 := by
    cases r1 with
    | cons p q =>
      cases q with
      | cons p' q' =>
        cases q' with
        | cons p'' q'' =>
          cases q''
          exact ⟨_, _, _, rfl, p, p', p''⟩
  refine wpAny_newObj_type ?_ (by show 3 ≤ sizeLine; decide)
  have I2 : Inv X pins σ H1 { s1 with heap := s1.heap.push { cls := .type "tuple", data := .seq [u1, u2, u3].toArray } } := I1.kept (t' := s1.toks) fun b o e => Heap.get?_push_of_some _ e
  rw [hw]
  refine wpAny_bind (wpAny_pure ?_)
  show wpAny (model X.prog X.w) X.A (do rule "assign.swapped-stores"; let items ← unpackItems (.ref s1.heap.objs.size) 3 none; assignInOrder [fun v => bindName X.env z v, fun v => bindName X.env y v, fun v => bindName X.env x v] items.reverse; pure Flow.next) _ _ _
  refine wpAny_bind (wpAny_rule (wpAny_bind (unpackItems_tuple (items := #[u1, u2, u3]) (I.ok.hd hc) (IsTup.new s1.heap _) fun h' hx' => ?_)))
  have I3 := I2.kept (h' := h') (t' := s1.toks) fun b o e => hx' b o (Nat.ne_of_lt (Heap.lt_size e)) e
  show wpAny _ _ (assignInOrder [fun v => bindName X.env z v, fun v => bindName X.env y v, fun v => bindName X.env x v] [u3, u2, u1] >>= fun _ => pure Flow.next) _ _ _
  refine wpAny_bind (assignInOrder_cons (wpAny_bindName (store_ok I3 hN hk (.inl hz) ru (fun s2 I4 => ?_) (.inr hz))))
  refine assignInOrder_cons (wpAny_bindName (store_ok I4 hN hj (.inl hy) rw' (fun s3 I5 => ?_) (.inr hy)))
  refine assignInOrder_cons (wpAny_bindName (store_ok I5 hN hi (.inl hx) rv (fun s4 I6 => assignInOrder_nil (wpAny_pure ?_)) (.inr hx)))
  have e : (((σ.set k (some u)).set j (some w)).set i (some v)) = ((σ.set i (some v)).set j (some w)).set k (some u) := by
    rw [List.set_comm _ _ hjk.symm, List.set_comm _ _ hik.symm, List.set_comm _ _ hij.symm]
  rw [e] at I6
  exact ⟨_, H1, I6, q1⟩
/-- J holds where the first statement hands on to the others -/
def tCut (t u : TS) : TS := fun D σ H => ∃ J : L2.St → Hp → Prop, t { D with nx := J } σ H ∧ ∀ σ' H', J σ' H' → u D σ' H'
theorem pss_cut {X : Cx} {st : Stmt} {rest : List Stmt} {t u : TS} (h1 : PS X st t) (h2 : PSs X rest u) : PSs X (st :: rest) (tCut t u) := by
  refine ⟨fun pins s σ H D I ⟨J, h, f⟩ => ?_⟩
  refine wpAny_execs_cons (thn (h1.run pins s σ H { D with nx := J } I h) fun f' s1 q => ?_)
  cases f' with
  | next =>
    obtain ⟨σ', H', I', q⟩ := q
    exact h2.run pins s1 σ' H' D I' (f _ _ q)
  | ret v => exact q
  | brk => exact q
  | cont => exact q
end Pl

set_option Elab.async false
set_option linter.all false
set_option maxRecDepth 100000
set_option maxHeartbeats 2000000
/-! list(zip(xs, ys)) of two lists -/
namespace RZ
open PySem
open PySem.Sem (wp)
theorem zip_no_len : typeLookup (.type "zip") "__len__" = pure none := am_miss_of_fast (by decide +kernel)
theorem zip_no_hint : typeLookup (.type "zip") "__length_hint__" = pure none := am_miss_of_fast (by decide +kernel)
theorem hi_ne {a T lo : Nat} (h : a < lo) (l : lo ≤ T) : T ≠ a := Nat.ne_of_gt (Nat.lt_of_lt_of_le h l)
/-- item j of what is made so far -/
def ZIt (h : Heap) (xs ys : Array Value) (lo : Nat) (j : Nat) (v : Value) : Prop := ∃ T x y, v = .ref T ∧ IsPair h T x y ∧ xs[j]? = some x ∧ ys[j]? = some y ∧ lo ≤ T
/-- where a zip of two lists stands behind k items -/
structure ZSt (h : Heap) (z TI TO i1 i2 l1 l2 : Addr) (xs ys : Array Value) (lo k : Nat) : Prop where
  pi : IsPair h TI (.ref i1) (.ref i2)
  a1 : h.IsListIter i1 l1 k
  a2 : h.IsListIter i2 l2 k
  b1 : h.IsList l1 xs
  b2 : h.IsList l2 ys
  zz : (IsZip h z TI TO .none ∧ ∃ a b, IsPair h TO a b) ∨ ∃ T f oT, IsZipHeld h z TI TO T f ∧ h.get? T = some oT ∧ lo ≤ T
section
variable {prog : Program} {w : World} {A : Around} {E : Value → Shared → Prop} {s : Shared} {z TI TO i1 i2 l1 l2 S : Addr} {xs ys : Array Value}
theorem ZSt.keep {h h' : Heap} {lo k : Nat} (Z : ZSt h z TI TO i1 i2 l1 l2 xs ys lo k) (hS : S < lo) (ne : S ≠ z ∧ S ≠ TI ∧ S ≠ TO ∧ S ≠ i1 ∧ S ≠ i2 ∧ S ≠ l1 ∧ S ≠ l2) (e : ∀ b o, b ≠ S → h.get? b = some o → h'.get? b = some o) : ZSt h' z TI TO i1 i2 l1 l2 xs ys lo k := by
  obtain ⟨n1, n2, n3, n4, n5, n6, n7⟩ := ne
  have ex : Heap.ExtBut S h h' := fun b o hb q => e b o hb q
  refine ⟨e _ _ (Ne.symm n2) Z.pi, Z.a1.extBut ex (Ne.symm n4), Z.a2.extBut ex (Ne.symm n5), Z.b1.extBut ex (Ne.symm n6), Z.b2.extBut ex (Ne.symm n7), ?_⟩
  rcases Z.zz with ⟨q, a, b, r⟩ | ⟨T, f, oT, q, r, l⟩
  · exact .inl ⟨e _ _ (Ne.symm n1) q, a, b, e _ _ (Ne.symm n3) r⟩
  · exact .inr ⟨T, f, oT, e _ _ (Ne.symm n1) q, e _ _ (Nat.ne_of_gt (Nat.lt_of_lt_of_le hS l)) r, l⟩
theorem znext_item {lo k : Nat} {x y : Value} {Q : Option Value → Shared → Prop} (D : ZipApart z TI TO i1 i2 l1 l2) (hl : lo ≤ s.heap.objs.size) (lt : z < lo ∧ TI < lo ∧ TO < lo ∧ i1 < lo ∧ i2 < lo) (Z : ZSt s.heap z TI TO i1 i2 l1 l2 xs ys lo k) (hx : xs[k]? = some x) (hy : ys[k]? = some y)
    (hQ : ∀ h', ZSt h' z TI TO i1 i2 l1 l2 xs ys lo (k + 1) → IsPair h' s.heap.objs.size x y → h'.objs.size = s.heap.objs.size + 1 → (∀ c o, c ≠ z → c ≠ TO → c ≠ i1 → c ≠ i2 → s.heap.get? c = some o → h'.get? c = some o) → Q (some (.ref s.heap.objs.size)) { s with heap := h' }) :
    wpAny (model prog w) A (pyNext (.ref z)) Q E s := by
  obtain ⟨g1, g2, g3, g4, g5⟩ := lt
  have gone : ∀ {h' : Heap}, (∀ c o, c ≠ z → c ≠ TO → c ≠ i1 → c ≠ i2 → s.heap.get? c = some o → h'.get? c = some o) → IsPair h' TI (.ref i1) (.ref i2) ∧ h'.IsList l1 xs ∧ h'.IsList l2 ys := fun {h'} e => by
    refine ⟨e _ _ D.TIz D.TITO D.TIi1 D.TIi2 Z.pi, ?_, ?_⟩
    · obtain ⟨o, q, r⟩ := Z.b1
      exact ⟨o, e _ _ D.l1z D.l1TO D.l1i1 D.l1i2 q, r⟩
    · obtain ⟨o, q, r⟩ := Z.b2
      exact ⟨o, e _ _ D.l2z D.l2TO D.l2i1 D.l2i2 q, r⟩
  rcases Z.zz with ⟨q, a, b, r⟩ | ⟨T, f, oT, q, r, l⟩
  · refine wpAny_pyNext_zip_item D q Z.pi r Z.a1 Z.a2 Z.b1 Z.b2 hx hy fun h' e1 e2 e3 e4 e5 e6 e7 => ?_
    obtain ⟨u1, u2, u3⟩ := gone e7
    exact hQ h' ⟨u1, e3, e4, u2, u3, .inr ⟨_, false, _, e1, e5, hl⟩⟩ e5 e6 e7
  · refine wpAny_pyNext_zip_item_held D q r Z.pi Z.a1 Z.a2 Z.b1 Z.b2 hx hy fun h' e1 e3 e4 e5 e6 e7 => ?_
    have e8 : ∀ c o, c ≠ z → c ≠ TO → c ≠ i1 → c ≠ i2 → s.heap.get? c = some o → h'.get? c = some o := fun c o c1 _ c3 c4 q => e7 c o c1 c3 c4 q
    obtain ⟨u1, u2, u3⟩ := gone e8
    exact hQ h' ⟨u1, e3, e4, u2, u3, .inr ⟨T, true, oT, e1, e7 _ _ (hi_ne g1 l) (hi_ne g4 l) (hi_ne g5 l) r, l⟩⟩ e5 e6 e8
theorem znext_end {lo k : Nat} {Q : Option Value → Shared → Prop} (hh : A.handled = none) (D : ZipApart z TI TO i1 i2 l1 l2) (Z : ZSt s.heap z TI TO i1 i2 l1 l2 xs ys lo k) (hend : xs[k]? = none ∨ ys[k]? = none)
    (hQ : ∀ h', (∀ c o, c ≠ z → c ≠ TO → c ≠ i1 → c ≠ i2 → s.heap.get? c = some o → h'.get? c = some o) → Q none { s with heap := h' }) : wpAny (model prog w) A (pyNext (.ref z)) Q E s := by
  rcases Z.zz with ⟨q, a, b, r⟩ | ⟨T, f, oT, q, r, l⟩
  · exact wpAny_pyNext_zip_end hh D q Z.pi r Z.a1 Z.a2 Z.b1 Z.b2 hend hQ
  · exact wpAny_pyNext_zip_end_held hh D q r Z.pi Z.a1 Z.a2 Z.b1 Z.b2 hend fun h' e => hQ h' fun c o c1 _ c3 c4 q => e c o c1 c3 c4 q
theorem ZIt.keep {h h' : Heap} {lo j : Nat} {v : Value} (Z : ZIt h xs ys lo j v) (e : ∀ b o, lo ≤ b → h.get? b = some o → h'.get? b = some o) : ZIt h' xs ys lo j v := by
  obtain ⟨T, x, y, h1, h2, h3, h4, h5⟩ := Z
  exact ⟨T, x, y, h1, e _ _ h5 h2, h3, h4, h5⟩
theorem zloop {R : Result → Shared → Prop} {n lo : Nat} {res : Value} (hh : A.handled = none) (D : ZipApart z TI TO i1 i2 l1 l2) (hn : n = min xs.size ys.size) (hn2 : n ≤ 100000) (lt : z < lo ∧ TI < lo ∧ TO < lo ∧ i1 < lo ∧ i2 < lo) (hS : S < lo)
    (ne : S ≠ z ∧ S ≠ TI ∧ S ≠ TO ∧ S ≠ i1 ∧ S ≠ i2 ∧ S ≠ l1 ∧ S ≠ l2) :
    ∀ (k i : Nat) (s : Shared) (acc : Array Value) (c : Nat), n - i = k → i ≤ n → lo ≤ s.heap.objs.size → ZSt s.heap z TI TO i1 i2 l1 l2 xs ys lo i → s.heap.get? S = some { cls := .type "list", dict := none, data := .seq acc c, slots := #[] } → acc.size = i → (∀ j v, acc[j]? = some v → ZIt s.heap xs ys lo j v) →
    (∀ (h' : Heap) (tk : Nat) (acc' : Array Value) (c' : Nat), (∀ b o, b ≠ S → b ≠ z → b ≠ TO → b ≠ i1 → b ≠ i2 → s.heap.get? b = some o → h'.get? b = some o) → h'.get? S = some { cls := .type "list", dict := none, data := .seq acc' c', slots := #[] } → acc'.size = n → (∀ j v, acc'[j]? = some v → ZIt h' xs ys lo j v) →
      R (.ok (.ret res)) { s with heap := h', toks := tk }) →
    codeAny (model prog w) A (.builtin "list.extend.loop" ⟨[.ref S, .ref z, res], []⟩) R s := by
  obtain ⟨g1, g2, g3, g4, g5⟩ := id lt
  obtain ⟨n1, n2, n3, n4, n5, n6, n7⟩ := id ne
  intro k
  induction k with
  | zero =>
    intro i s acc c hk hi hlo hst hS' hsz hacc hR
    have hin : i = n := by omega
    refine codeAny_builtin F.entry_extend_loop ?_
    rw [Around.under_plainId F.plain_extend_loop _]
    show wpAny _ A.in1 (pyNext (.ref z) >>= _) _ _ s
    refine wpAny_bind (znext_end (A := A.in1) hh D hst ?_ fun h' e => ?_)
    · rcases Nat.lt_or_ge xs.size ys.size with q | q
      · exact .inl (Array.getElem?_eq_none (by omega))
      · exact .inr (Array.getElem?_eq_none (by omega))
    · refine wpAny_pure (hR h' s.toks acc c (fun b o _ c1 c2 c3 c4 q => e b o c1 c2 c3 c4 q) (e _ _ n1 n3 n4 n5 hS') (by omega) fun j v q => (hacc j v q).keep fun b o hb q2 => e b o (hi_ne g1 hb) (hi_ne g3 hb) (hi_ne g4 hb) (hi_ne g5 hb) q2)
  | succ k ih =>
    intro i s acc c hk hi hlo hst hS' hsz hacc hR
    have hlt : i < n := by omega
    have hx : xs[i]? = some xs[i] := Array.getElem?_eq_getElem (by omega)
    have hy : ys[i]? = some ys[i] := Array.getElem?_eq_getElem (by omega)
    refine codeAny_builtin F.entry_extend_loop ?_
    rw [Around.under_plainId F.plain_extend_loop _]
    show wpAny _ A.in1 (pyNext (.ref z) >>= _) _ _ s
    refine wpAny_bind (znext_item (A := A.in1) D hlo lt hst hx hy fun h' Z' hp hz e => ?_)
    have hS2 := e _ _ n1 n3 n4 n5 hS'
    show wpAny _ A.in1 (updateSeq S (·.push (.ref s.heap.objs.size)) >>= _) _ _ _
    refine wpAny_bind ?_
    have oth : ∀ b o, b ≠ S → h'.get? b = some o → (h'.update S (Obj.mapSeq (·.push (.ref s.heap.objs.size)))).get? b = some o := fun b o hb q => (Heap.get?_update_other _ _ (Ne.symm hb)).trans q
    refine wpAny_updateSeq hS2 rfl (wpAny_pure ⟨plainId_quiet F.plain_extend_loop _, ih (i + 1) _ (acc.push (.ref s.heap.objs.size)) _ (by omega) hlt ?_ (Z'.keep hS ne oth) (Heap.get?_update_self _ hS2 rfl) (by rw [Array.size_push, hsz]) (fun j v q => ?_) fun h'' tk acc' c' k' e1 e2 e3 => ?_⟩)
      (by rw [hsz]; have := Pl.small (show i + 1 ≤ 1000000 by omega); omega) (by show (acc.push _).size ≤ sizeLine + 1; rw [Array.size_push, hsz]; have := Pl.small (show i + 1 ≤ 1000000 by omega); omega)
    · show lo ≤ (h'.update S _).objs.size
      rw [Heap.size_update, hz]
      omega
    · have hj := (Array.getElem?_eq_some_iff.mp q).1
      rw [Array.size_push] at hj
      have keep : ∀ b o, lo ≤ b → s.heap.get? b = some o → (h'.update S (Obj.mapSeq (·.push (.ref s.heap.objs.size)))).get? b = some o := fun b o hb q => oth b o (hi_ne hS hb) (e b o (hi_ne g1 hb) (hi_ne g3 hb) (hi_ne g4 hb) (hi_ne g5 hb) q)
      by_cases hji : j = acc.size
      · subst hji
        rw [Array.getElem?_push_size] at q
        cases q
        exact ⟨_, _, _, rfl, oth _ _ (hi_ne hS hlo) hp, by rw [hsz]; exact hx, by rw [hsz]; exact hy, hlo⟩
      · rw [Array.getElem?_push_lt (by omega)] at q
        exact (hacc j v (by rw [Array.getElem?_eq_getElem (by omega)]; exact q)).keep keep
    · exact hR h'' tk acc' c' (fun b o c0 c1 c2 c3 c4 q => k' b o c0 c1 c2 c3 c4 (oth b o c0 (e b o c1 c2 c3 c4 q))) e1 e2 e3
end
section
variable {prog : Program} {w : World} {A : Around} {E : Value → Shared → Prop} {s : Shared} {z TI TO i1 i2 l1 l2 S : Addr} {xs ys : Array Value}
theorem hint_zip {o : Obj} {Q : Bool → Shared → Prop} (hz : s.heap.get? z = some o) (hc : o.cls = .type "zip") (h : Q true s) : wpAny (model prog w) A (Builtin.List.listLengthHint (.ref z)) Q E s := by
  unfold Builtin.List.listLengthHint
  refine wpAny_bind (wpAny_specialOf ⟨_, hz, hc⟩ zip_no_len ?_)
  refine wpAny_ite_split (fun hab => absurd hab (by decide)) (fun _ => ?_)
  refine wpAny_ite_split (fun hab => absurd hab (by decide)) (fun _ => ?_)
  refine wpAny_bind (wpAny_specialOf ⟨_, hz, hc⟩ zip_no_hint ?_)
  exact wpAny_pure h
theorem extend_zip {R : Result → Shared → Prop} {n lo : Nat} {res : Value} (c₀ : Nat) (hh : A.handled = none) (D : ZipApart z TI TO i1 i2 l1 l2) (hn : n = min xs.size ys.size) (hn2 : n ≤ 100000) (lt : z < lo ∧ TI < lo ∧ TO < lo ∧ i1 < lo ∧ i2 < lo) (hS : S < lo)
    (ne : S ≠ z ∧ S ≠ TI ∧ S ≠ TO ∧ S ≠ i1 ∧ S ≠ i2 ∧ S ≠ l1 ∧ S ≠ l2) (hlo : lo ≤ s.heap.objs.size) (hst : ZSt s.heap z TI TO i1 i2 l1 l2 xs ys lo 0) (hz : IsZip s.heap z TI TO .none) (hS' : s.heap.get? S = some { cls := .type "list", data := .seq #[] c₀ })
    (hR : ∀ (h' : Heap) (tk : Nat) (acc' : Array Value) (c' : Nat), (∀ b o, b ≠ S → b ≠ z → b ≠ TO → b ≠ i1 → b ≠ i2 → s.heap.get? b = some o → h'.get? b = some o) → h'.get? S = some { cls := .type "list", dict := none, data := .seq acc' c', slots := #[] } → acc'.size = n → (∀ j v, acc'[j]? = some v → ZIt h' xs ys lo j v) →
      R (.ok (.ret res)) { s with heap := h', toks := tk }) :
    wpAny (model prog w) A.in1 (Builtin.List.listExtendWith (.ref S) (.ref z) res)
      (fun fin s' => match fin with | .done f => R (.ok f) s' | .again c' => c'.quiet = true ∧ codeAny (model prog w) A c' R s') (fun e s' => R (.error e) s') s := by
  unfold Builtin.List.listExtendWith
  refine wpAny_bind (wpAny_typeOf (T := "zip") ⟨_, hz, rfl⟩ ?_)
  have h1 : Builtin.List.listSameRef (.ref S) (.ref z) = false := by simp [Builtin.List.listSameRef, ne.1]
  have h2 : (Value.type "zip" == Value.type "list") = false := by decide
  have h3 : (Value.type "zip" == Value.type "tuple") = false := by decide
  simp only [h1, h2, h3, Bool.or_false, Bool.false_eq_true, if_false]
  refine wpAny_bind (wpAny_pyIter_zip hz ?_)
  refine wpAny_bind (wpAny_holding (hint_zip hz rfl ?_))
  refine wpAny_ite_split (fun _ => ?_) (fun hab => by simp at hab)
  refine wpAny_bind (wpAny_rule ?_)
  refine wpAny_bind ?_
  show wpAny _ _ (updateSeq S (·.push .none) >>= fun _ => updateSeq S (·.pop)) _ _ _
  refine wpAny_bind (wpAny_updateSeq hS' rfl ?_)
  have hS2 := Heap.get?_update_self (Obj.mapSeq (·.push Value.none)) hS' rfl
  refine wpAny_updateSeq (hz := by seq_fits) hS2 rfl ?_
  have hS3 := Heap.get?_update_self (Obj.mapSeq (·.pop)) hS2 rfl
  have oth : ∀ b o, b ≠ S → s.heap.get? b = some o → ((s.heap.update S (Obj.mapSeq (·.push Value.none))).update S (Obj.mapSeq (·.pop))).get? b = some o := fun b o hb q => (Heap.get?_update_other _ _ (Ne.symm hb)).trans ((Heap.get?_update_other _ _ (Ne.symm hb)).trans q)
  refine wpAny_pure ⟨plainId_quiet F.plain_extend_loop _, zloop hh D hn hn2 lt hS ne n 0 _ #[] _ (Nat.sub_zero _) (Nat.zero_le _) ?_ (hst.keep hS ne oth) hS3 rfl (fun j v q => by simp at q) fun h' tk acc' c' k' e1 e2 e3 => ?_⟩
  · show lo ≤ ((s.heap.update S _).update S _).objs.size
    rw [Heap.size_update, Heap.size_update]
    exact hlo
  · exact hR h' tk acc' c' (fun b o c0 c1 c2 c3 c4 q => k' b o c0 c1 c2 c3 c4 (oth b o c0 q)) e1 e2 e3
theorem call_list_zip {Q : Value → Shared → Prop} {n : Nat} (hh : A.handled = none) (D : ZipApart z TI TO i1 i2 l1 l2) (hn : n = min xs.size ys.size) (hn2 : n ≤ 100000) (hst : ∀ lo, ZSt s.heap z TI TO i1 i2 l1 l2 xs ys lo 0) (hz : IsZip s.heap z TI TO .none)
    (lt : z < s.heap.objs.size ∧ TI < s.heap.objs.size ∧ TO < s.heap.objs.size ∧ i1 < s.heap.objs.size ∧ i2 < s.heap.objs.size ∧ l1 < s.heap.objs.size ∧ l2 < s.heap.objs.size)
    (hQ : ∀ (h' : Heap) (tk : Nat) (acc' : Array Value) (c' : Nat), (∀ b o, b ≠ z → b ≠ TO → b ≠ i1 → b ≠ i2 → s.heap.get? b = some o → h'.get? b = some o) → h'.get? s.heap.objs.size = some { cls := .type "list", dict := none, data := .seq acc' c', slots := #[] } → acc'.size = n → (∀ j v, acc'[j]? = some v → ZIt h' xs ys (s.heap.objs.size + 1) j v) →
      Q (.ref s.heap.objs.size) { s with heap := h', toks := tk }) :
    wpAny (model prog w) A (call (.type "list") [.ref z]) Q E s := by
  obtain ⟨g1, g2, g3, g4, g5, g6, g7⟩ := lt
  refine callType_codes (Q₁ := fun obj s₁ => obj = .ref s.heap.objs.size ∧ s₁ = { s with heap := s.heap.push { cls := .type "list", data := .seq #[] } }) F.called_list (F.typeCall_list_1 _) F.entry_list_init
    (code_list_new _ ⟨rfl, rfl⟩) fun obj s₁ h₁ => ?_
  obtain ⟨rfl, rfl⟩ := h₁
  have hS : (s.heap.push { cls := .type "list", data := .seq #[] }).get? s.heap.objs.size = some { cls := .type "list", data := .seq #[] } := Heap.get?_push_size _ rfl
  have sz : (s.heap.push { cls := .type "list", data := .seq #[] }).objs.size = s.heap.objs.size + 1 := Heap.size_push ..
  refine ⟨⟨_, hS, rfl⟩, F.args_list_init_2 _ _, ?_⟩
  have pu : ∀ b o, s.heap.get? b = some o → (s.heap.push { cls := .type "list", data := .seq #[] }).get? b = some o := fun b o q => Heap.get?_push_of_some _ q
  show wpAny _ _ (do let old ← Builtin.List.listItems (.ref s.heap.objs.size); Builtin.List.listUpdate (.ref s.heap.objs.size) (fun _ => #[]); letGo old.toList.reverse; Builtin.List.listExtendWith (.ref s.heap.objs.size) (.ref z) .none) _ _ _
  refine wpAny_bind ?_
  unfold Builtin.List.listItems
  refine wpAny_bind (wpAny_seqItems hS rfl (wpAny_pure ?_))
  show wpAny _ _ (updateSeq s.heap.objs.size (fun _ => #[]) >>= fun _ => letGo (#[] : Array Value).toList.reverse >>= fun _ => Builtin.List.listExtendWith (.ref s.heap.objs.size) (.ref z) .none) _ _ _
  refine wpAny_bind (wpAny_updateSeq hS rfl ?_)
  have hS2 := Heap.get?_update_self (Obj.mapSeq (fun _ => (#[] : Array Value))) hS rfl
  have oth : ∀ b o, b ≠ s.heap.objs.size → s.heap.get? b = some o → ((s.heap.push { cls := .type "list", data := .seq #[] }).update s.heap.objs.size (Obj.mapSeq (fun _ => (#[] : Array Value)))).get? b = some o :=
    fun b o hb e => (Heap.get?_update_other _ _ (Ne.symm hb)).trans (pu _ _ e)
  have old : ∀ b o, s.heap.get? b = some o → ((s.heap.push { cls := .type "list", data := .seq #[] }).update s.heap.objs.size (Obj.mapSeq (fun _ => (#[] : Array Value)))).get? b = some o := fun b o e => oth b o (Nat.ne_of_lt (Heap.lt_size e)) e
  refine wpAny_bind (wpAny_letGo ?_)
  have Z := hst (s.heap.objs.size + 1)
  have up : ∀ {a : Addr}, a < s.heap.objs.size → a < s.heap.objs.size + 1 := fun h => Nat.lt_succ_of_lt h
  refine extend_zip (lo := s.heap.objs.size + 1) _ hh D hn hn2 ⟨up g1, up g2, up g3, up g4, up g5⟩ (Nat.lt_succ_self _) ⟨Nat.ne_of_gt g1, Nat.ne_of_gt g2, Nat.ne_of_gt g3, Nat.ne_of_gt g4, Nat.ne_of_gt g5, Nat.ne_of_gt g6, Nat.ne_of_gt g7⟩ ?_ ?_ (old _ _ hz) hS2 fun h' tk acc' c' hk e1 e2 e3 => ?_
  · show _ ≤ ((s.heap.push _).update _ _).objs.size
    rw [Heap.size_update, sz]
    exact Nat.le_refl _
  · refine ⟨old _ _ Z.pi, ?_, ?_, ?_, ?_, .inl ⟨old _ _ hz, ?_⟩⟩
    · exact Z.a1.at fun o q => old _ _ q
    · exact Z.a2.at fun o q => old _ _ q
    · obtain ⟨o, q, r⟩ := Z.b1
      exact ⟨o, old _ _ q, r⟩
    · obtain ⟨o, q, r⟩ := Z.b2
      exact ⟨o, old _ _ q, r⟩
    · rcases Z.zz with ⟨_, a, b, r⟩ | ⟨T, f, oT, q, r, l⟩
      · exact ⟨a, b, old _ _ r⟩
      · have e := (show s.heap.get? z = _ from hz).symm.trans q
        simp [rawInt] at e
  · exact ⟨rfl, hQ h' tk acc' c' (fun b o c1 c2 c3 c4 q => hk b o (Nat.ne_of_lt (Heap.lt_size q)) c1 c2 c3 c4 (old b o q)) e1 e2 e3⟩
end
end RZ
namespace Pl
open PySem PySem.Spec PyProof.Rows L2 RZ
def refOf : Value → Addr
  | .ref a => a
  | _ => 0
def tListZip (K : PySem.W.Frag) (ta : TA) : TE := fun σ H Q => ta σ H fun vs H1 => ∃ a b xs ys, vs = [.ref a, .ref b] ∧ SqL K H1 a xs ∧ SqL K H1 b ys ∧ min xs.length ys.length ≤ 100000 ∧
  ∀ H' S ts, Same H1 H' → H1 S = none → H' S = some (.lst (ts.map V.ref)) → List.length ts = min xs.length ys.length → (∀ (i : Nat) (T : Addr), ts[i]? = some T → ∃ x y, xs[i]? = some x ∧ ys[i]? = some y ∧ H' T = some (.tup [x, y])) → Q (.ref S) H'
theorem pe_listZip {X : Cx} {K : PySem.W.Frag} {e e2 : Expr} {ta : TA} {p1 pos1 p2 pos2 : Pos} (hc : X.calm = true) (hg1 : Gl X "list") (hm1 : X.mg "list" = none) (hg2 : Gl X "zip") (hm2 : X.mg "zip" = none) (ha : PA X [e, e2] ta) (hK : X.K = K := by rfl)
    (na : starEach [.Call (.Name "zip" p2) [e, e2] [] pos2] X.env = (false, eval (.Call (.Name "zip" p2) [e, e2] [] pos2) X.env) :: starEach [] X.env := by rfl)
    (hs : starEach [e, e2] X.env = (false, eval e X.env) :: starEach [e2] X.env := by rfl) (hpl : (backTo pos2 (starEach [e2] X.env)).any (·.1) = false := by rfl) :
    PE X (.Call (.Name "list" p1) [.Call (.Name "zip" p2) [e, e2] [] pos2] [] pos1) (tListZip K ta) := by
  subst hK
  refine ⟨fun pins s σ H Q I h => ?_⟩
  refine Call_ (ld_blt I hg1 hm1 PyProof.Rows.boot_list (PyProof.Rows.callWith_type1 (args_cons ?_ na) na))
  refine Call_ (ld_blt I hg2 hm2 PyProof.Rows.boot_zip (PyProof.Rows.callWith_type1 (thn (ha.run pos2 pins s σ H _ I h) fun us s1 ⟨vs, H1, I1, r1, q1⟩ => ?_) hs hpl))
  obtain ⟨a, b, xs, ys, rfl, hx, hy, hl, q⟩ := q1
  obtain ⟨its, rv, p1', _⟩ := I1.list hx
  obtain ⟨jts, rw', p2', _⟩ := I1.list hy
  rcases r1 with _ | ⟨⟨⟩, _ | ⟨⟨⟩, ⟨⟩⟩⟩
  have la : a < s1.heap.objs.size := p1'.lt
  have lb : b < s1.heap.objs.size := p2'.lt
  have n1 := rv.length
  have n2 := rw'.length
  refine call_zip_2 p1'.isList p2'.isList fun h' hz hTI hTO o1 o2 hsz hk => args_nil ?_
  have ad : ∀ {c k : Nat}, c < s1.heap.objs.size → c ≠ s1.heap.objs.size + k := fun h => Nat.ne_of_lt (Nat.lt_of_lt_of_le h (Nat.le_add_right _ _))
  have D : ZipApart (s1.heap.objs.size + 4) (s1.heap.objs.size + 2) (s1.heap.objs.size + 3) s1.heap.objs.size (s1.heap.objs.size + 1) a b := by
    constructor
    all_goals first
      | exact ad la
      | exact ad lb
      | exact ad (k := 0) la
      | exact ad (k := 0) lb
      | (intro z; exact absurd (show (_ : Nat) = _ from z) (by omega))
  have lh : s1.heap.objs.size < h'.objs.size ∧ s1.heap.objs.size + 1 < h'.objs.size ∧ s1.heap.objs.size + 2 < h'.objs.size ∧ s1.heap.objs.size + 3 < h'.objs.size ∧ s1.heap.objs.size + 4 < h'.objs.size := by
    rw [hsz]
    refine ⟨?_, ?_, ?_, ?_, ?_⟩ <;> omega
  obtain ⟨g0, g1, g2, g3, g4⟩ := lh
  refine call_list_zip (s := { s1 with heap := h' }) (n := min xs.length ys.length) (xs := its.toArray) (ys := jts.toArray) (I1.ok.hd hc) D (by simp only [List.size_toArray]; omega) hl (fun lo => ⟨hTI, o1, o2, ?_, ?_, .inl ⟨hz, _, _, hTO⟩⟩) hz
    ⟨g4, g2, g3, g0, g1, Nat.lt_trans la g0, Nat.lt_trans lb g0⟩ fun h2 tk acc c' hk2 e1 e2 e3 => ?_
  · obtain ⟨o, q, r⟩ := p1'.isList
    exact ⟨o, hk _ _ q, r⟩
  · obtain ⟨o, q, r⟩ := p2'.isList
    exact ⟨o, hk _ _ q, r⟩
  have KK : ∀ b o, s1.heap.get? b = some o → h2.get? b = some o := fun b o q => by
    have lt := Heap.lt_size q
    exact hk2 b o (ad lt) (ad lt) (ad (k := 0) lt) (ad lt) (hk b o q)
  obtain ⟨ts, hts⟩ : ∃ ts : List Addr, ts = acc.toList.map refOf := ⟨_, rfl⟩
  have itm : ∀ (j : Nat) (T : Addr), ts[j]? = some T → acc[j]? = some (.ref T) ∧ ∃ (x y : V) (u v : Value), xs[j]? = some x ∧ ys[j]? = some y ∧ RelV x u ∧ RelV y v ∧ IsPair h2 T u v ∧ s1.heap.objs.size < T := fun j T hj => by
    rw [hts, List.getElem?_map] at hj
    cases hv : acc[j]? with
    | none =>
      rw [Array.getElem?_toList, hv] at hj
      cases hj
    | some v =>
      rw [Array.getElem?_toList, hv] at hj
      obtain ⟨T', u, w', rfl, hp, h3, h4, h5⟩ := e3 j v hv
      cases hj
      have hj2 : j < min xs.length ys.length := by
        rw [← e2]
        exact (Array.getElem?_eq_some_iff.mp hv).1
      have hxj : xs[j]? = some xs[j] := List.getElem?_eq_getElem (by omega)
      have hyj : ys[j]? = some ys[j] := List.getElem?_eq_getElem (by omega)
      obtain ⟨u', hu, ru⟩ := rv.get hxj
      obtain ⟨w2, hw, rw2⟩ := rw'.get hyj
      have q1 : its[j]? = some u := by simpa using h3
      have q2 : jts[j]? = some w' := by simpa using h4
      rw [hu] at q1
      rw [hw] at q2
      cases q1
      cases q2
      exact ⟨rfl, _, _, _, _, hxj, hyj, ru, rw2, hp, Nat.lt_of_lt_of_le (Nat.lt_trans g0 (Nat.lt_succ_self _)) h5⟩
  have hacc : acc.toList = ts.map Value.ref := by
    refine List.ext_getElem? fun j => ?_
    rw [List.getElem?_map]
    cases hj : ts[j]? with
    | none =>
      rw [hts, List.getElem?_map] at hj
      rw [Option.map_eq_none_iff.mp hj]
      rfl
    | some T =>
      rw [Array.getElem?_toList, (itm j T hj).1]
      rfl
  have hlen : ts.length = min xs.length ys.length := by
    rw [hts, List.length_map, Array.length_toList, e2]
  let H' : Hp := fun b => if b < s1.heap.objs.size then H1 b else if b = h'.objs.size then some (.lst (ts.map V.ref)) else open Classical in if hb : ∃ (j : Nat) (x y : V), ts[j]? = some b ∧ xs[j]? = some x ∧ ys[j]? = some y then some (.tup [hb.choose_spec.choose, hb.choose_spec.choose_spec.choose]) else none
  have nS : ¬ h'.objs.size < s1.heap.objs.size := by rw [hsz]; omega
  have HS : H' h'.objs.size = some (.lst (ts.map V.ref)) := by
    show (if h'.objs.size < s1.heap.objs.size then _ else _) = _
    rw [if_neg nS, if_pos rfl]
  have Hold : ∀ b, b < s1.heap.objs.size → H' b = H1 b := fun b hb => if_pos hb
  have same : Same H1 H' := fun b o q => by rw [Hold b (I1.hok.lt q)]; exact q
  have HT : ∀ (j : Nat) (T : Addr), ts[j]? = some T → ∃ x y, xs[j]? = some x ∧ ys[j]? = some y ∧ H' T = some (.tup [x, y]) := fun j T hj => by
    obtain ⟨_, x, y, u, v, hx, hy, ru, rv, hp, lt⟩ := itm j T hj
    refine ⟨x, y, hx, hy, ?_⟩
    have hb : ∃ (j : Nat) (x y : V), ts[j]? = some T ∧ xs[j]? = some x ∧ ys[j]? = some y := ⟨j, x, y, hj, hx, hy⟩
    have ne : T ≠ h'.objs.size := fun z => by
      rw [z] at hp
      have := hp.symm.trans e1
      simp at this
    show (if T < s1.heap.objs.size then _ else _) = _
    rw [if_neg (Nat.not_lt.mpr (Nat.le_of_lt lt)), if_neg ne, dif_pos hb]
    obtain ⟨k1, k2, k3⟩ := hb.choose_spec.choose_spec.choose_spec
    obtain ⟨_, x', y', u', v', hx', hy', ru', rv', hp', _⟩ := itm _ _ k1
    have eo := hp.symm.trans hp'
    have eu : u = u' ∧ v = v' := by simpa using eo
    rw [k2] at hx'
    rw [k3] at hy'
    cases hx'
    cases hy'
    obtain ⟨rfl, rfl⟩ := eu
    have e9 : (hb.choose_spec.choose, hb.choose_spec.choose_spec.choose) = (x, y) := Prod.ext (ru'.inj ru) (rv'.inj rv)
    exact congrArg (fun z : V × V => some (HO.tup [z.1, z.2])) e9
  have hok : HOk X.prog X.w H' h2 := fun b o hb => by
    by_cases lt : b < s1.heap.objs.size
    · rw [Hold b lt] at hb
      exact (I1.hok b o hb).stay (fun c v _ q => KK c v q) (fun c q => same _ _ q) fun c zs q => same _ _ q
    · by_cases eS : b = h'.objs.size
      · rw [eS, HS] at hb
        cases hb
        rw [eS]
        refine ⟨by rw [List.length_map, hlen]; exact small (Nat.le_trans hl (by decide)), acc.toList, c', ?_, ?_⟩
        · rw [hacc]
          have : ∀ l : List Addr, Vals (l.map V.ref) (l.map Value.ref) := fun l => by
            induction l with
            | nil => exact .nil
            | cons a l ih => exact .cons rfl ih
          exact this ts
        · simpa using e1
      · have hb2 : (open Classical in if hb : ∃ (j : Nat) (x y : V), ts[j]? = some b ∧ xs[j]? = some x ∧ ys[j]? = some y then some (HO.tup [hb.choose_spec.choose, hb.choose_spec.choose_spec.choose]) else none) = some o := by
          have h0 : H' b = some o := hb
          have h1 : (if b < s1.heap.objs.size then H1 b else if b = h'.objs.size then some (.lst (ts.map V.ref)) else open Classical in if hb : ∃ (j : Nat) (x y : V), ts[j]? = some b ∧ xs[j]? = some x ∧ ys[j]? = some y then some (.tup [hb.choose_spec.choose, hb.choose_spec.choose_spec.choose]) else none) = some o := h0
          rw [if_neg lt, if_neg eS] at h1
          exact h1
        by_cases hx : ∃ (j : Nat) (x y : V), ts[j]? = some b ∧ xs[j]? = some x ∧ ys[j]? = some y
        · rw [dif_pos hx] at hb2
          obtain ⟨j, x, y, k1, k2, k3⟩ := hx
          obtain ⟨x2, y2, q2, q3, q4⟩ := HT j b k1
          rw [show H' b = some o from hb] at q4
          cases q4
          obtain ⟨_, x3, y3, u, v, hx3, hy3, ru, rv, hp, _⟩ := itm j b k1
          rw [q2] at hx3
          rw [q3] at hy3
          cases hx3
          cases hy3
          exact ⟨by show 2 ≤ sizeLine; decide, [u, v], .cons ru (.cons rv .nil), ⟨_, hp, rfl, _, rfl⟩⟩
        · rw [dif_neg hx] at hb2
          cases hb2
  have un : Un X.fs [] H1 H' s1.heap h2 := by
    refine ⟨fun b o q _ _ _ => KK b o q, fun b o q _ _ _ => ⟨o.slots, KK b o q⟩, fun b o q n _ => by rw [Hold b (Heap.lt_size q)]; exact n, fun b o q _ => ⟨o, KK b o q⟩, fun b zs q => same _ _ q, fun b o u q => same _ _ q, fun b ps q => ⟨#[], by rw [same _ _ q]; simp⟩⟩
  exact ⟨.ref h'.objs.size, H', I1.un un hok, rfl, q H' h'.objs.size ts same (I1.hok.fresh (Nat.not_lt.mp nS)) HS hlen HT⟩
end Pl

set_option Elab.async false
set_option linter.all false
set_option maxRecDepth 100000
set_option maxHeartbeats 2000000
namespace Pl
open PySem PySem.Spec PyProof.Rows L2 RZ
/-! ### lanes that wrap -/
structure Dg (w : Nat) (ds : List Int) : Prop where
  w1 : 1 ≤ w
  w64 : w ≤ 64
  n64 : ds.length ≤ 64
  dig : ∀ d ∈ ds, 0 ≤ d ∧ d < 2 ^ w
def md (w : Nat) (zs : List Int) : List Int := zs.map fun z => z % 2 ^ w
theorem md_length (w : Nat) (zs : List Int) : (md w zs).length = zs.length := List.length_map ..
theorem Dg.md {w : Nat} {zs : List Int} (h1 : 1 ≤ w) (h2 : w ≤ 64) (h3 : zs.length ≤ 64) : Dg w (md w zs) := by
  refine ⟨h1, h2, by rw [md_length]; exact h3, fun d hd => ?_⟩
  obtain ⟨z, _, rfl⟩ := List.mem_map.mp hd
  have hp := pw w
  exact ⟨Int.emod_nonneg _ (by omega), Int.emod_lt_of_pos _ hp⟩
theorem Dg.md_self {w : Nat} {ds : List Int} (h : Dg w ds) : Pl.md w ds = ds := by
  unfold Pl.md
  refine (List.map_congr_left fun d hd => ?_).trans (List.map_id ds)
  exact Int.emod_eq_of_lt (h.dig d hd).1 (h.dig d hd).2
theorem two64 (w : Nat) (h : w ≤ 64) : (2 : Int) ^ w ≤ 2 ^ 64 := by
  obtain ⟨k, hk⟩ : ∃ k, 64 = w + k := ⟨64 - w, by omega⟩
  rw [hk, Int.pow_add]
  have a := pw w
  have b := pw k
  have : (2 : Int) ^ w * 1 ≤ 2 ^ w * 2 ^ k := Int.mul_le_mul_of_nonneg_left (by omega) (by omega)
  omega
theorem Dg.small {w : Nat} {ds : List Int} (h : Dg w ds) : ∀ d ∈ ds, d.natAbs < 2 ^ 64 := fun d hd => by
  have h1 := h.dig d hd
  have h2 := two64 w h.w64
  have h3 : (2 : Int) ^ 64 = ((2 ^ 64 : Nat) : Int) := by decide
  generalize (2 : Int) ^ w = A at *
  generalize (2 : Nat) ^ 64 = B at *
  omega
theorem Dg.val_bits {w : Nat} {ds : List Int} (h : Dg w ds) : (val ds w).natAbs < 2 ^ 4300 := by
  refine Nat.lt_of_lt_of_le (val_small (w := w) ds h.small) (Nat.pow_le_pow_right (by decide) ?_)
  have : (w + 1) * ds.length ≤ 65 * 64 := Nat.mul_le_mul (by have := h.w64; omega) h.n64
  omega
theorem Dg.nonneg {w : Nat} : ∀ {ds : List Int}, (∀ d ∈ ds, 0 ≤ d ∧ d < 2 ^ w) → 0 ≤ val ds w ∧ val ds w < 2 ^ (w * ds.length)
  | [], _ => by
    show (0 : Int) ≤ 0 ∧ (0 : Int) < 2 ^ (w * 0)
    rw [Nat.mul_zero, Int.pow_zero]
    omega
  | d :: ds, h => by
    have ih := Dg.nonneg (w := w) (ds := ds) fun x hx => h x (List.mem_cons_of_mem _ hx)
    have hd := h d List.mem_cons_self
    show 0 ≤ d + 2 ^ w * val ds w ∧ d + 2 ^ w * val ds w < 2 ^ (w * (ds.length + 1))
    rw [Nat.mul_succ, Int.pow_add, Int.mul_comm (2 ^ (w * ds.length))]
    have hp := pw w
    have h1 : 0 ≤ 2 ^ w * val ds w := Int.mul_nonneg (by omega) ih.1
    have h2 : 2 ^ w * (val ds w + 1) ≤ 2 ^ w * 2 ^ (w * ds.length) := Int.mul_le_mul_of_nonneg_left (by omega) (by omega)
    rw [Int.mul_add] at h2
    omega
theorem ent_self (ds : List Int) : ent ds ds.length = ds := by
  refine list_of_get (by unfold ent; rw [List.length_map, List.length_range]) fun n => ?_
  unfold ent
  rw [List.getD_eq_getElem?_getD, List.getElem?_map]
  rcases Nat.lt_or_ge n ds.length with h | h
  · rw [List.getElem?_range h]
    rfl
  · rw [List.getElem?_eq_none (by rw [List.length_range]; exact h), List.getD_eq_getElem?_getD, List.getElem?_eq_none h]
    rfl
theorem Dg.back {w : Nat} {ds : List Int} (h : Dg w ds) : digL (val ds w) w ds.length = ds := by
  have := (digits_iff ds w ds.length).mpr fun i hi => by
    rw [List.getD_eq_getElem?_getD, List.getElem?_eq_getElem hi]
    exact h.dig _ (List.getElem_mem hi)
  rw [this, ent_self]
theorem Dg.inj {w : Nat} {as bs : List Int} (ha : Dg w as) (hb : Dg w bs) (hl : as.length = bs.length) (h : val as w = val bs w) : as = bs := by
  rw [← ha.back, ← hb.back, h, hl]
/-- with 2 ^ w - 1: what stands below -/
theorem and_mask (x : Int) (w : Nat) : Builtin.bitAnd x (2 ^ w - 1) = x % 2 ^ w := by
  have hp := pw w
  have hn : (2 : Int) ^ w - 1 = ((2 ^ w - 1 : Nat) : Int) := by
    have := Nat.pow_pos (n := w) (show 0 < 2 by decide)
    rw [Int.natCast_sub (by omega), Int.natCast_pow]
    rfl
  have ht : ((2 : Int) ^ w - 1).toNat = 2 ^ w - 1 := by rw [hn, Int.toNat_natCast]
  have hm : ((2 ^ w : Nat) : Int) = 2 ^ w := by rw [Int.natCast_pow] <;> rfl
  by_cases hx : 0 ≤ x
  · rw [bitAnd_pp hx (by omega), ht, Nat.and_two_pow_sub_one_eq_mod, Int.natCast_emod, hm, Int.toNat_of_nonneg hx]
  · rw [bitAnd_np hx (by omega), ht, Nat.and_comm, Nat.and_two_pow_sub_one_eq_mod, Int.natCast_emod, hm]
    unfold Builtin.bitNot
    rw [Int.toNat_of_nonneg (by omega)]
    have d1 := Int.emod_add_mul_ediv x (2 ^ w)
    have m0 := Int.emod_nonneg x (show (2 : Int) ^ w ≠ 0 by omega)
    have m1 := Int.emod_lt_of_pos x hp
    have e : (-x - 1) % 2 ^ w = 2 ^ w - 1 - x % 2 ^ w := by
      have : -x - 1 = (2 ^ w - 1 - x % 2 ^ w) + 2 ^ w * (-(x / 2 ^ w) - 1) := by
        generalize x % 2 ^ w = m at *
        generalize x / 2 ^ w = q at *
        generalize (2 : Int) ^ w = B at *
        rw [Int.mul_sub, Int.mul_neg]
        omega
      rw [this, Int.add_mul_emod_self_left]
      exact Int.emod_eq_of_lt (by omega) (by omega)
    rw [e]
    omega
/-! ### objects -/
def WrapF (w n num : Int) : List (Str × V) := [("width", .int w), ("many", .int n), ("number", .int num)]
theorem wrapF_put (w n num : Int) : putF "number" (.int num) (putF "many" (.int n) (putF "width" (.int w) [])) = WrapF w n num := by
  show putF "number" (.int num) (if ("width" : Str) = "many" then [(("width" : Str), V.int n)] else (("width" : Str), V.int w) :: putF "many" (V.int n) []) = _
  rw [if_neg (by decide +kernel)]
  show (if ("width" : Str) = "number" then _ else (("width" : Str), V.int w) :: putF "number" (.int num) (putF "many" (V.int n) [])) = _
  rw [if_neg (by decide +kernel)]
  show (("width" : Str), V.int w) :: (if ("many" : Str) = "number" then _ else (("many" : Str), V.int n) :: putF "number" (.int num) []) = _
  rw [if_neg (by decide +kernel)]
  rfl
theorem wrapF_w (w n num : Int) : (WrapF w n num).lookup ("width" : Str) = some (.int w) := by simp [WrapF, List.lookup]
theorem wrapF_m (w n num : Int) : (WrapF w n num).lookup ("many" : Str) = some (.int n) := by
  unfold WrapF
  rw [List.lookup_cons, show (("many" : Str) == "width") = false by decide +kernel]
  simp [List.lookup]
theorem wrapF_n (w n num : Int) : (WrapF w n num).lookup ("number" : Str) = some (.int num) := by
  unfold WrapF
  rw [List.lookup_cons, show (("number" : Str) == "width") = false by decide +kernel]
  show List.lookup _ [(("many" : Str), V.int n), ("number", .int num)] = _
  rw [List.lookup_cons, show (("number" : Str) == "many") = false by decide +kernel]
  simp [List.lookup]
theorem wrapF_none (w n num : Int) {m : Str} (h : (m == ("width" : Str)) = false) (h2 : (m == ("many" : Str)) = false) (h3 : (m == ("number" : Str)) = false) : (WrapF w n num).lookup m = none := by
  unfold WrapF
  rw [List.lookup_cons, h]
  show List.lookup m [(("many" : Str), V.int n), ("number", .int num)] = none
  rw [List.lookup_cons, h2]
  show List.lookup m [(("number" : Str), V.int num)] = none
  rw [List.lookup_cons, h3]
  rfl
def WrapRaw (K : PySem.W.Frag) (H : Hp) (p : Addr) (w n num : Int) : Prop := ∃ dx, H p = some (.ins (He.ga K "WrapLanes") dx (WrapF w n num))
def WrapAt (K : PySem.W.Frag) (H : Hp) (p : Addr) (w : Nat) (ds : List Int) : Prop := Dg w ds ∧ WrapRaw K H p w ds.length (val ds w)
theorem WrapRaw.same {K : PySem.W.Frag} {H H' : Hp} {p : Addr} {w n num : Int} (s : Same H H') (h : WrapRaw K H p w n num) : WrapRaw K H' p w n num := by
  obtain ⟨dx, h1⟩ := h
  exact ⟨dx, s _ _ h1⟩
theorem WrapAt.same {K : PySem.W.Frag} {H H' : Hp} {p : Addr} {w : Nat} {ds : List Int} (s : Same H H') (h : WrapAt K H p w ds) : WrapAt K H' p w ds := ⟨h.1, h.2.same s⟩
end Pl

set_option Elab.async false
set_option linter.all false
set_option maxRecDepth 100000
set_option maxHeartbeats 2000000
/-! number * x, x an instance with a __rmul__; isinstance(x, C) of a number -/
namespace Pl
open PySem PySem.Spec PyProof.Rows L2 RZ
open PySem.W PySem.Calls in
theorem int_mul_obj (a : Int) (t : Tok) (x C dx : Addr) :
    Meets (Builtin.«int.__mul__» ⟨[.int a t, .ref x], []⟩) (fun _ R s => s.heap.get? x = some (instObj C dx) ∧ R (.ok (.ret Value.notImplemented)) s) :=
  .of_wp fun prog w A R s h => by
    obtain ⟨hp, g, d, tk, os⟩ := s
    obtain ⟨hl, h⟩ := h
    wp_walk
    exact ⟨_, rfl, h⟩
section
open PySem.W PySem.Calls
variable {prog : Program} {w : World} {A : Around} {E : Value → Shared → Prop} {s : Shared} {K : Frag} {x C L f g dx : Addr} {h₀ : Heap} {m : Str → Option Value} {od : Option Obj}
theorem ksp_int_mulR {i : Int} {t : Tok} {Q : Value → Shared → Prop} (Fm : Fr h₀ L s.heap m) (X₀ : K.In h₀) (I : PySem.W.InstAt s.heap x (instObj C dx) C od) (hc : selfFirst K C = true)
    (hs : findIn K (.ref C) "__mul__" = some (some (.ref f))) (hr : findIn K (.ref C) "__rmul__" = some (some (.ref g))) (hf : isFn K (.ref g) = true) (hsub : subIn K (.ref C) (.type "int") = some false)
    (h : wpAny (model prog w) A (call (.ref g) [.ref x, .int i t]) (PySem.W.CmpBack Q) E s) : wpAny (model prog w) A (binaryOp .Mult (.int i t) (.ref x)) Q E s := by
  have X := X₀.keeps Fm.keep
  obtain ⟨cd, rest, hcd, hm⟩ := ksp_first hc
  have ho := I.at_
  have one := ksp_try X I hr hf h
  obtain ⟨hh, gg, d, tt, os⟩ := s
  have L1 : Looks (model prog w) hh (typeOf (.ref x)) (.ref C) := I.type
  have L2 : Looks (model prog w) hh (typeOf (.int i t)) (.type "int") := Looks.of_pure rfl
  have L3 : Looks (model prog w) hh (fillsNumberSlot (.ref C) "mul") true := fills_K X hcd hm hs
  have L4 : Looks (model prog w) hh (fillsNumberSlot (.type "int") "mul") true := Looks.of_pure F.fills_int_mul
  have L5 : Looks (model prog w) hh (isSubtype (.ref C) (.type "int")) false := looks_subIn X hsub
  have L7 : Looks (model prog w) hh (numberSlotInPython (.type "int") "mul") false := Looks.of_pure rfl
  have hne : (Value.type "int" == Value.ref C) = false := Bool.eq_false_iff.mpr fun q => by cases beq_iff_eq.mp q
  simp only [binaryOp, Operator.info]
  refine wpAny_holding (wpAny_bind ?_)
  unfold binaryOp1
  refine wpAny_bind (L2.at (wpAny_bind (L1.at (wpAny_bind (L4.at ?_)))))
  simp only [hne, Bool.false_eq_true, if_false]
  ksp_lk
  refine wpAny_tryMethod_declines (T := "int") (id := "int.__mul__") ?_ ?_ ?_
  · exact typeIs_int _ i t
  · exact F.slot_int_mul
  refine call_meets F.slot_int_mul (typeIs_int _ i t) F.entry_int_mul (F.args_int_mul_2 _ _) (int_mul_obj i t x C dx) ?_
  refine ⟨ho, rfl, ?_⟩
  simp only [Bool.false_eq_true, if_false, Bool.not_false, Bool.and_self, if_true]
  ksp_lk
  refine wpAny_mono one (fun r s' hr' => ?_) fun _ _ e => e
  obtain ⟨v, rfl, hq⟩ := hr'
  ksp_lk
  exact hq
end
/-- i * x -/
def rIOwn (C : Addr) (sp : Sp) (E : XK) : R2 := fun x y H Q => ∃ a dx fs i, x = .int i ∧ y = .ref a ∧ H a = some (.ins C dx fs) ∧ sp [.ref a, .int i] H Q E
def ownIRB (K : PySem.W.Frag) (C : Addr) : Bool := PySem.W.selfFirst K C && ((match PySem.W.findIn K (.ref C) "__mul__" with
    | some (some (.ref _)) => true
    | _ => false) && decide (PySem.W.subIn K (.ref C) (.type "int") = some false))
section
variable {X : Cx} {CX : CXT} {C f : Addr} {fd : FuncData} {ps : List Str} {sp : Sp} {E : XK} {k : Nat}
theorem op_Iown (hm : Meth X.K C "__rmul__" f) (hB : ownIRB X.K C = true) (F : FnOk X.prog X.w X.K X.mg X.base CX k f fd ps sp) (hr : Room k X.A) (hb : Binds X.K fd ps []) (hx : Passes CX X E) : OpR X (binaryOp .Mult) (rIOwn C sp E) := by
  intro pins s σ H x' y v u Q I rx ry h
  obtain ⟨a, dx, fs, i, rfl, rfl, ha, hsp⟩ := h
  obtain ⟨t, rfl⟩ := rx
  cases ry
  obtain ⟨mA, J, _⟩ := ins_get I.hok ha
  obtain ⟨od, J, _⟩ := J.look
  obtain ⟨m, hF⟩ := I.fr
  obtain ⟨h1, hB⟩ := He.ba hB
  obtain ⟨h2, h3⟩ := He.ba hB
  obtain ⟨g, hg⟩ : ∃ g : Addr, PySem.W.findIn X.K (.ref C) "__mul__" = some (some (.ref g)) := by
    split at h2
    · rename_i g e
      exact ⟨g, e⟩
    · cases h2
  refine ksp_int_mulR hF I.ok.mod.kin J h1 hg hm.at_ hm.fn (of_decide_eq_true h3) ?_
  exact wpAny_mono (run_fn (us := [.ref a, .int i t]) (vs := [.ref a, .int i]) F hr hb .nil hx I (.cons rfl (.cons ⟨_, rfl⟩ .nil)) hsp) (fun v s' q => cmpBack_of q) fun _ _ z => z
end
/-- isinstance(x, C), x an instance of C or an int -/
def rIsiI (K : PySem.W.Frag) (C : Addr) : List V → Hp → VK → Prop := fun xs H Q => (∃ b dy gs, xs = [.ref b, .ref C] ∧ H b = some (.ins C dy gs) ∧ Q (.bl true) H) ∨ ∃ i, xs = [.int i, .ref C] ∧ Q (.bl false) H
theorem call_isiKI {X : Cx} {K : PySem.W.Frag} {C : Addr} (cl : Cls K C) (ib : insB K C = true) (ii : (PySem.W.kitOne K (.type "int") (.ref C) == some false) = true) (hK : X.K = K := by rfl) : CallR X (.builtin "isinstance") (rIsiI K C) := by
  subst hK
  have ii := eq_of_beq ii
  intro pins s σ H xs us Q I r h
  rcases h with ⟨b, dy, gs, rfl, hb, q⟩ | ⟨i, rfl, q⟩
  · exact call_isiK cl ib rfl pins s σ H _ us Q I r ⟨b, rfl, .inl ⟨dy, gs, hb, q⟩⟩
  · exact call_isi pins s σ H _ us Q I r ⟨_, _, _, _, false, rfl, .own C, (.base (.int i)), ii, q⟩
end Pl

set_option Elab.async false
set_option maxHeartbeats 2000000
/-! equal modulo W: the right side is found by the shape of the left one -/
namespace Pl
def cg (W x y : Int) : Prop := ∃ k, x = y + W * k
theorem cg.rf {W x : Int} : cg W x x := ⟨0, by rw [Int.mul_zero, Int.add_zero]⟩
theorem cg.add {W a b c d : Int} (h : cg W a b) (g : cg W c d) : cg W (a + c) (b + d) := by
  obtain ⟨k, rfl⟩ := h
  obtain ⟨l, rfl⟩ := g
  exact ⟨k + l, by grind⟩
theorem cg.sub {W a b c d : Int} (h : cg W a b) (g : cg W c d) : cg W (a - c) (b - d) := by
  obtain ⟨k, rfl⟩ := h
  obtain ⟨l, rfl⟩ := g
  exact ⟨k - l, by grind⟩
theorem cg.mul {W a b c d : Int} (h : cg W a b) (g : cg W c d) : cg W (a * c) (b * d) := by
  obtain ⟨k, rfl⟩ := h
  obtain ⟨l, rfl⟩ := g
  exact ⟨k * d + b * l + W * k * l, by grind⟩
theorem cg.neg {W a b : Int} (h : cg W a b) : cg W (-a) (-b) := by
  obtain ⟨k, rfl⟩ := h
  exact ⟨-k, by grind⟩
theorem cg.md {W a b : Int} (h : cg W a b) : cg W (a % W) b := by
  obtain ⟨k, rfl⟩ := h
  refine ⟨k - (b + W * k) / W, ?_⟩
  have := Int.emod_add_mul_ediv (b + W * k) W
  generalize (b + W * k) / W = q at *
  generalize (b + W * k) % W = r at *
  grind
theorem cg.em {W a b p q : Int} (h : cg W a p) (g : cg W b q) (e : p = q) : a % W = b % W := by
  obtain ⟨k, rfl⟩ := h
  obtain ⟨l, rfl⟩ := g
  rw [e, Int.add_mul_emod_self_left, Int.add_mul_emod_self_left]
local macro_rules | `(tactic| exists cgs) => `(tactic| repeat (first | with_reducible apply cg.md | with_reducible apply cg.add | with_reducible apply cg.sub | with_reducible apply cg.mul | with_reducible apply cg.neg | with_reducible exact cg.rf))
local macro_rules | `(tactic| exists cgm) => `(tactic| (apply cg.em; (focus exists cgs); (focus exists cgs); (focus grind)))
theorem t1 (a b W : Int) : ((a + b) % W - b) % W = a % W := by exists cgm
theorem t2 (a b c W : Int) : (a * ((b + c) % W)) % W = ((a * b) % W + (a * c) % W) % W := by exists cgm
theorem t3 (a b W : Int) : (a - b) % W = (-((b - a) % W)) % W := by exists cgm
theorem t4 (a b W : Int) : (a - b) % W = ((a + (-1 - b) % W) % W + 1) % W := by exists cgm
/-- lanes by their worths -/
def ln (w n : Nat) (F : Nat → Int) : List Int := (List.range n).map fun i => F i % 2 ^ w
theorem ln_length (w n : Nat) (F : Nat → Int) : (ln w n F).length = n := by unfold ln; rw [List.length_map, List.length_range]
theorem ln_get {w n i : Nat} {F : Nat → Int} (h : i < n) : (ln w n F).getD i 0 = F i % 2 ^ w := by
  unfold ln
  rw [List.getD_eq_getElem?_getD, List.getElem?_map, List.getElem?_range h]
  rfl
theorem ln_congr {w n : Nat} {F G : Nat → Int} (h : ∀ i, i < n → F i % 2 ^ w = G i % 2 ^ w) : ln w n F = ln w n G := by
  unfold ln
  exact List.map_congr_left fun i hi => h i (List.mem_range.mp hi)
theorem Dg.ln {w : Nat} {as : List Int} (h : Dg w as) : as = Pl.ln w as.length fun i => as.getD i 0 := by
  conv => lhs; rw [← h.md_self]
  unfold Pl.ln Pl.md
  refine List.ext_getElem? fun i => ?_
  rw [List.getElem?_map, List.getElem?_map]
  rcases Nat.lt_or_ge i as.length with l | l
  · rw [List.getElem?_range l, get_of l]
    rfl
  · rw [List.getElem?_eq_none l, List.getElem?_eq_none (by rw [List.length_range]; exact l)]
    rfl
end Pl

set_option Elab.async false
set_option linter.all false
set_option maxRecDepth 100000
set_option maxHeartbeats 2000000
namespace Pl
open PySem PySem.Spec PyProof.Rows L2 RZ
local macro_rules | `(tactic| exists cgs) => `(tactic| repeat (first | with_reducible apply cg.md | with_reducible apply cg.add | with_reducible apply cg.sub | with_reducible apply cg.mul | with_reducible apply cg.neg | with_reducible exact cg.rf))
local macro_rules | `(tactic| exists cgm) => `(tactic| (apply cg.em; (focus exists cgs); (focus exists cgs); (focus grind)))
/-! ### or, xor by and -/
theorem bor (a b : Int) : Builtin.bitOr a b = a + b - Builtin.bitAnd a b := by
  have h := bitXor_and a b
  unfold Builtin.bitXor at h
  omega
theorem band_le {a b : Int} (ha : 0 ≤ a) (hb : 0 ≤ b) : 0 ≤ Builtin.bitAnd a b ∧ Builtin.bitAnd a b ≤ a ∧ Builtin.bitAnd a b ≤ b := by
  rw [bitAnd_pp ha hb]
  have h1 : a.toNat &&& b.toNat ≤ a.toNat := Nat.and_le_left
  have h2 : a.toNat &&& b.toNat ≤ b.toNat := Nat.and_le_right
  omega
theorem bxor_zero {a b : Int} (ha : 0 ≤ a) (hb : 0 ≤ b) : Builtin.bitXor a b = 0 ↔ a = b := by
  rw [bitXor_and]
  have h := band_le ha hb
  constructor
  · intro z
    omega
  · intro z
    subst z
    rw [bitAnd_pp ha ha, Nat.and_self]
    omega
theorem bnot (a : Int) : Builtin.bitNot a = -a - 1 := rfl
/-! ### sum(xs) of a list or a tuple of ints -/
def rSumQ (K : PySem.W.Frag) : List V → Hp → VK → Prop := fun vs H Q => ∃ (a : Addr) (ns : List Int), vs = [V.ref a] ∧ Sq K H a (ns.map V.int) ∧ Q (.int ns.sum) H
theorem call_sumQ {X : Cx} {K : PySem.W.Frag} (hc : X.calm = true) (hK : X.K = K := by rfl) : CallR X (.builtin "sum") (rSumQ K) := by
  subst hK
  intro pins s σ H vs us Q I r h
  obtain ⟨a, ns, rfl, hs, q⟩ := h
  rcases hs with hs | hs
  · exact cr_sum hc pins s σ H _ us Q I r ⟨a, ns, rfl, hs, q⟩
  · obtain ⟨its, rv, hl, _⟩ := I.tuple hs
    rw [Vals.ref1 r]
    have hi := rv.ints
    obtain ⟨xs, e⟩ := hi.allInts.items
    have hn : numsOf (intItems xs).toList = ns := by rw [← e]; exact hi.numsOf
    rw [nums_intItems] at hn
    have hl' : s.heap.IsTuple a (intItems xs) := by rw [← e]; exact hl
    refine PySem.W.ktm_sumG (I.ok.hd hc) hl' fun h' tk t' hk => ?_
    rw [preSum_eq, List.take_of_length_le (by simp), hn]
    exact ⟨.int _, H, I.kept hk, ⟨_, rfl⟩, q⟩
end Pl
namespace Pl
open PySem PySem.Spec PyProof.Rows L2 RZ
theorem bor_pp {a b : Int} (ha : 0 ≤ a) (hb : 0 ≤ b) : Builtin.bitOr a b = ((a.toNat ||| b.toNat : Nat) : Int) := by
  unfold Builtin.bitOr
  have h1 : Builtin.bitNot a < 0 := by unfold Builtin.bitNot; omega
  have h2 : Builtin.bitNot b < 0 := by unfold Builtin.bitNot; omega
  unfold Builtin.bitAnd
  rw [decide_eq_false (show ¬ 0 ≤ Builtin.bitNot a by omega), decide_eq_false (show ¬ 0 ≤ Builtin.bitNot b by omega)]
  have nn : ∀ x : Int, Builtin.bitNot (Builtin.bitNot x) = x := fun x => by unfold Builtin.bitNot; omega
  simp only [nn]
theorem bxor_lt {a b : Int} {w : Nat} (ha : 0 ≤ a) (hb : 0 ≤ b) (ha' : a < 2 ^ w) (hb' : b < 2 ^ w) : 0 ≤ Builtin.bitXor a b ∧ Builtin.bitXor a b < 2 ^ w := by
  have h := band_le ha hb
  have ho := bor_pp ha hb
  have e : ((2 ^ w : Nat) : Int) = 2 ^ w := by rw [Int.natCast_pow] <;> rfl
  have lt : a.toNat ||| b.toNat < 2 ^ w := Nat.or_lt_two_pow (by omega) (by omega)
  refine ⟨by rw [bitXor_and]; omega, ?_⟩
  unfold Builtin.bitXor
  omega
theorem r_less {a b : Int} {w : Nat} (hw : 1 ≤ w) (ha : 0 ≤ a) (hb : 0 ≤ b) (ha' : a < 2 ^ w) (hb' : b < 2 ^ w) : (((if a < b then (1 : Int) else 0) % 2 ^ w + (if b < a then (1 : Int) else 0) % 2 ^ w) % 2 ^ w + (if Builtin.bitXor a b % 2 ^ w = 0 then (1 : Int) else 0) % 2 ^ w) % 2 ^ w = 1 % 2 ^ w := by
  have hx : Builtin.bitXor a b % 2 ^ w = 0 ↔ a = b := by
    rw [← bxor_zero ha hb]
    have h := bxor_lt ha hb ha' hb'
    rw [Int.emod_eq_of_lt h.1 h.2]
  have h2 : (2 : Int) ≤ 2 ^ w := by
    have := two_half hw
    have := pw (w - 1)
    omega
  have h1 : (1 : Int) % 2 ^ w = 1 := Int.emod_eq_of_lt (by decide) (by omega)
  simp only [hx]
  rcases Int.lt_trichotomy a b with h | h | h
  · rw [if_pos h, if_neg (by omega), if_neg (by omega), Int.zero_emod, h1, Int.add_zero, Int.add_zero, h1, h1]
  · rw [if_neg (by omega), if_neg (by omega), if_pos h, Int.zero_emod, h1, Int.add_zero, Int.zero_emod, Int.zero_add, h1]
  · rw [if_neg (by omega), if_pos h, if_neg (by omega), Int.zero_emod, h1, Int.add_zero, Int.zero_add, h1, h1]
theorem r_avg {a b : Int} {w : Nat} (hw : 1 ≤ w) : (((a + b) / 2 % 2 ^ w + (a + b) / 2 % 2 ^ w) % 2 ^ w + Builtin.bitAnd (Builtin.bitXor a b % 2 ^ w) (1 % 2 ^ w) % 2 ^ w) % 2 ^ w = (a + b) % 2 ^ w := by
  have hh := two_half hw
  have h2 : (2 : Int) ≤ 2 ^ w := by
    have := pw (w - 1)
    omega
  rw [show (1 : Int) % 2 ^ w = 1 from Int.emod_eq_of_lt (by decide) (by omega), bitAnd_m1, bitXor_and, Int.emod_emod_of_dvd _ ⟨2 ^ (w - 1), hh⟩]
  rw [show (a + b - 2 * Builtin.bitAnd a b) % 2 = (a + b) % 2 by omega]
  have e : a + b = 2 * ((a + b) / 2) + (a + b) % 2 := by omega
  conv => rhs; rw [e]
  generalize (a + b) / 2 = q
  generalize (a + b) % 2 = r
  have key : ∀ W : Int, ((q % W + q % W) % W + r % W) % W = (2 * q + r) % W := fun W => by
    apply cg.em (p := q + q + r) (q := 2 * q + r)
    · exact (((cg.rf.md.add cg.rf.md).md).add cg.rf.md)
    · exact cg.rf
    · omega
  exact key _
theorem r_sat {a b : Int} {w : Nat} (hw : 1 ≤ w) (ha : 0 ≤ a) (hb : 0 ≤ b) (ha' : a < 2 ^ w) (hb' : b < 2 ^ w) :
    Builtin.bitOr ((a + b) % 2 ^ w) (-((if (a + b) % 2 ^ w < a then (1 : Int) else 0) % 2 ^ w) % 2 ^ w) % 2 ^ w = (if 2 ^ w - 1 < a + b then 2 ^ w - 1 else a + b) % 2 ^ w := by
  have h2 : (2 : Int) ≤ 2 ^ w := by
    have := two_half hw
    have := pw (w - 1)
    omega
  by_cases h : a + b < 2 ^ w
  · rw [Int.emod_eq_of_lt (by omega) h, if_neg (by omega), Int.zero_emod, Int.neg_zero, Int.zero_emod, bor, if_neg (by omega)]
    have : Builtin.bitAnd (a + b) 0 = 0 := by
      have := band_le (a := a + b) (b := 0) (by omega) (by decide)
      omega
    rw [this]
    congr 1
    omega
  · have e : (a + b) % 2 ^ w = a + b - 2 ^ w := by
      rw [← Int.sub_emod_right, Int.emod_eq_of_lt (by omega) (by omega)]
    have e1 : (1 : Int) % 2 ^ w = 1 := Int.emod_eq_of_lt (by decide) (by omega)
    have e2 : (-1 : Int) % 2 ^ w = 2 ^ w - 1 := by
      rw [← Int.add_emod_right, Int.emod_eq_of_lt (by omega) (by omega)]
      omega
    rw [e, if_pos (by omega), e1, e2, bor, and_mask, Int.emod_eq_of_lt (a := a + b - 2 ^ w) (by omega) (by omega), if_pos (by omega)]
    congr 1
    omega
end Pl

set_option Elab.async false
set_option linter.all false
set_option maxRecDepth 100000
set_option maxHeartbeats 2000000
namespace Pl
open PySem PySem.Spec PyProof.Rows L2 RZ
/-! one step of a reading, by its head -/
section
variable {σ : L2.St} {H : Hp} {Q : VK} {D : Ends} {QB : Bool → Hp → Prop}
theorem k_var {i : Nat} {v : V} (h : σ[i]? = some (some v)) (q : Q v H) : tVar i σ H Q := ⟨v, h, q⟩
theorem k_c {v : V} (q : Q v H) : tC v σ H Q := q
theorem k_op {r : R2} {ta tb : TE} (q : ta σ H fun x H1 => tb σ H1 fun y H2 => r x y H2 Q) : tOp r ta tb σ H Q := q
theorem k_un {r : V → Hp → VK → Prop} {ta : TE} (q : ta σ H fun x H1 => r x H1 Q) : tUn r ta σ H Q := q
theorem k_test {t : TE} (q : t σ H fun x H' => ∃ k, x = .bl k ∧ QB k H') : tTest t σ H QB := q
theorem k_tB {t : TE} (q : t σ H fun x H' => ∃ k, x = .bl k ∧ QB k H') : tB t σ H QB := q
theorem k_not {t : TT} (q : t σ H fun c H1 => QB (!c) H1) : tNot t σ H QB := q
theorem k_or {t u : TT} (q : t σ H fun c H1 => if c = true then QB true H1 else u σ H1 QB) : tOr t u σ H QB := q
theorem k_and {t u : TT} (q : t σ H fun c H1 => if c = true then u σ H1 QB else QB false H1) : tAnd t u σ H QB := q
theorem k_yes (q : QB true H) : tYes σ H QB := q
theorem k_andV {ta tb : TE} (q : ta σ H fun x H1 => ∃ c, x = .bl c ∧ if c = true then tb σ H1 Q else Q (.bl false) H1) : tAndV ta tb σ H Q := q
theorem k_orV {ta tb : TE} (q : ta σ H fun x H1 => ∃ c, x = .bl c ∧ if c = true then Q (.bl true) H1 else tb σ H1 Q) : tOrV ta tb σ H Q := q
theorem k_notV {ta : TE} (q : ta σ H fun x H1 => ∃ c, x = .bl c ∧ Q (.bl (!c)) H1) : tNotV ta σ H Q := q
theorem k_if {t : TT} {ta tb : TE} (q : t σ H fun c H1 => if c = true then ta σ H1 Q else tb σ H1 Q) : tIf t ta tb σ H Q := q
theorem k_seq {t u : TS} (q : t { D with nx := u D } σ H) : tSeq t u D σ H := q
theorem k_next (q : D.nx σ H) : tNext D σ H := q
theorem k_drop {te : TE} (q : te σ H fun _ H1 => D.nx σ H1) : tDrop te D σ H := q
theorem k_ret {te : TE} (q : te σ H D.rt) : tRet te D σ H := q
theorem k_retN (q : D.rt .non H) : tRetN D σ H := q
theorem k_ifS {c : TT} {t u : TS} (q : c σ H fun b H1 => if b = true then t D σ H1 else u D σ H1) : tIfS c t u D σ H := q
theorem k_asg {te : TE} {g : TG} (q : te σ H fun x H1 => g x σ H1 D.nx) : tAsg te g D σ H := q
theorem k_name {i : Nat} {x : V} {N : L2.St → Hp → Prop} (q : N (σ.set i (some x)) H) : gName i x σ H N := q
theorem k_nil {R : List V → Hp → Prop} (q : R [] H) : tNil σ H R := q
theorem k_cons {ta : TE} {tr : TA} {R : List V → Hp → Prop} (q : ta σ H fun x H1 => tr σ H1 fun xs H2 => R (x :: xs) H2) : tCons ta tr σ H R := q
theorem k_call {sp : Sp} {dvs : List V} {E : XK} {t : TA} (q : t σ H fun vs H1 => sp (vs ++ dvs) H1 Q E) : tCall sp dvs E t σ H Q := q
theorem k_cb {r : List V → Hp → VK → Prop} {t : TA} (q : t σ H fun vs H1 => r vs H1 Q) : tCB r t σ H Q := q
theorem k_lst {t : TA} (q : t σ H fun xs H1 => xs.length ≤ sizeLine ∧ NewL xs H1 Q) : tLstN t σ H Q := q
theorem k_tup {K : PySem.W.Frag} {t : TA} (q : t σ H fun xs H1 => xs.length ≤ sizeLine ∧ NewT K xs H1 Q) : tTupN K t σ H Q := q
theorem k_bl {b : Bool} {R : Bool → Prop} (q : R b) : ∃ k, V.bl b = .bl k ∧ R k := ⟨b, rfl, q⟩
theorem k_i0 {g : Int → Int → V} {i j : Int} (q : Q (g i j) H) : rI0 g (.int i) (.int j) H Q := ⟨i, j, rfl, rfl, q⟩
theorem k_iC {C : Int → Int → Prop} {g : Int → Int → V} {i j : Int} (c : C i j) (q : Q (g i j) H) : rI C g (.int i) (.int j) H Q := ⟨i, j, rfl, rfl, c, q⟩
theorem k_u {g : Int → V} {i : Int} (q : Q (g i) H) : rU g (.int i) H Q := ⟨i, rfl, q⟩
theorem k_eqI {i j : Int} (q : Q (.bl (decide (V.int i = V.int j))) H) : rEq (.int i) (.int j) H Q := ⟨rfl, q⟩
theorem k_eqB {i j : Bool} (q : Q (.bl (decide (V.bl i = V.bl j))) H) : rEq (.bl i) (.bl j) H Q := ⟨rfl, q⟩
theorem k_neI {i j : Int} (q : Q (.bl (!decide (V.int i = V.int j))) H) : rNe (.int i) (.int j) H Q := ⟨rfl, q⟩
theorem k_isB {a b : Bool} (q : Q (.bl (decide (a = b))) H) : (fun x y H Q => ∃ a b, x = V.bl a ∧ y = V.bl b ∧ Q (V.bl (decide (a = b))) H : R2) (.bl a) (.bl b) H Q := ⟨a, b, rfl, rfl, q⟩
theorem k_ifT {A B : Prop} (q : A) : if true = true then A else B := iteT q
theorem k_ifF {A B : Prop} (q : B) : if false = true then A else B := iteF q
theorem k_ifnT {A B : Prop} (q : A) : if (!false) = true then A else B := iteT q
theorem k_ifnF {A B : Prop} (q : B) : if (!true) = true then A else B := iteF q
theorem k_tt (q : Q (.bl true) H) : Q (.bl (decide True)) H := by rw [decide_eq_true True.intro]; exact q
/-- a method of an instance whose fields are known -/
theorem k_meth {C : Addr} {m : Str} {sp : Sp} {dvs : List V} {E : XK} {ta : TE} {t : TA} (q : ta σ H fun x H1 => ∃ a dx fs, x = .ref a ∧ H1 a = some (.ins C dx fs) ∧ fs.lookup m = none ∧ t σ H1 fun vs H2 => sp (x :: (vs ++ dvs)) H2 Q E) : tMeth C m sp dvs E ta t σ H Q := q
theorem k_ins {C a dx : Addr} {m : Str} {fs : List (Str × V)} {R : V → Prop} (h : H a = some (.ins C dx fs)) (n : fs.lookup m = none) (q : R (.ref a)) : ∃ a' dx fs, V.ref a = .ref a' ∧ H a' = some (.ins C dx fs) ∧ fs.lookup m = none ∧ R (.ref a) := ⟨a, dx, fs, rfl, h, n, q⟩
theorem k_cut {t u : TS} (J : L2.St → Hp → Prop) (q : t { D with nx := J } σ H) (f : ∀ σ' H', J σ' H' → u D σ' H') : tCut t u D σ H := ⟨J, q, f⟩
theorem k_ifJ {c : TT} {t u : TS} (J : L2.St → Hp → Prop) (q : c σ H fun b H1 => if b = true then t { D with nx := J } σ H1 else u { D with nx := J } σ H1) (f : ∀ σ' H', J σ' H' → D.nx σ' H') : tIfJ c t u D σ H := ⟨J, q, f⟩
end
end Pl
namespace Pl
open PySem PySem.Spec PyProof.Rows L2 RZ
theorem same_at {H H' : Hp} {a : Addr} {o : HO} (s : Same H H') (h : H a = some o) : H' a = some o := s _ _ h
theorem same_trans {H H1 H2 : Hp} (s : Same H1 H2) (h : Same H H1) : Same H H2 := Same.trans h s
end Pl
namespace Pl
open PySem PySem.Spec PyProof.Rows L2 RZ
theorem k_bl2 {a b : Bool} {R : Bool → Bool → Prop} (q : R a b) : ∃ c d, V.bl a = .bl c ∧ V.bl b = .bl d ∧ R c d := ⟨a, b, rfl, rfl, q⟩
theorem k_ifdR {α : Type} [DecidableEq α] {a : α} {A B : Prop} (q : A) : if decide (a = a) = true then A else B := by rw [decide_eq_true rfl]; exact iteT q
theorem k_ifdT {c : Prop} [Decidable c] {A B : Prop} (h : c) (q : A) : if decide c = true then A else B := by rw [decide_eq_true h]; exact iteT q
theorem k_ifdF {c : Prop} [Decidable c] {A B : Prop} (h : ¬ c) (q : B) : if decide c = true then A else B := by rw [decide_eq_false h]; exact iteF q
theorem k_ifndT {c : Prop} [Decidable c] {A B : Prop} (h : ¬ c) (q : A) : if (!decide c) = true then A else B := by rw [decide_eq_false h]; exact iteT q
theorem k_ifndF {c : Prop} [Decidable c] {A B : Prop} (h : c) (q : B) : if (!decide c) = true then A else B := by rw [decide_eq_true h]; exact iteF q
theorem k_ifndR {α : Type} [DecidableEq α] {a : α} {A B : Prop} (q : B) : if (!decide (a = a)) = true then A else B := by rw [decide_eq_true rfl]; exact iteF q
theorem k_dR {α : Type} [DecidableEq α] {a : α} {Q : VK} {H : Hp} (q : Q (.bl true) H) : Q (.bl (decide (a = a))) H := by rw [decide_eq_true rfl]; exact q
theorem k_int {i : Int} {R : Int → Prop} (q : R i) : ∃ k, V.int i = .int k ∧ R k := ⟨i, rfl, q⟩
theorem k_ref {a : Addr} {R : Addr → Prop} (q : R a) : ∃ k, V.ref a = .ref k ∧ R k := ⟨a, rfl, q⟩
end Pl
namespace Pl
open PySem PySem.Spec PyProof.Rows L2 RZ
theorem k_fld {K : PySem.W.Frag} {ta : TE} {f : Str} {σ : L2.St} {H : Hp} {Q : VK} (q : ta σ H fun x H1 => ∃ a C dx fs v, x = .ref a ∧ H1 a = some (.ins C dx fs) ∧ Cls K C ∧ NoAttr K C f ∧ fs.lookup f = some v ∧ Q v H1) : tFld K ta f σ H Q := q
end Pl

set_option Elab.async false
set_option linter.all false
set_option maxRecDepth 100000
set_option maxHeartbeats 4000000
namespace Pl
open PySem PySem.Spec PyProof.Rows L2 RZ
def top (i : Nat) : Stmt := PySem.Challenge.pw_packedlanes_k04_carries.main.body.getD i (.Pass ⟨0, 0, 0, 0⟩)
abbrev s_check_lanes : Stmt := top 9
theorem sc_check_lanes : FnScope ["lanes"] ["lanes"] (defScope s_check_lanes) := ⟨rfl, rfl, rfl, by decide +kernel, rfl, by decide +kernel, by decide +kernel⟩
abbrev s_check_width : Stmt := top 10
theorem sc_check_width : FnScope ["width"] ["width"] (defScope s_check_width) := ⟨rfl, rfl, rfl, by decide +kernel, rfl, by decide +kernel, by decide +kernel⟩
abbrev s_stripped : Stmt := top 11
theorem sc_stripped : FnScope ["entries", "told", "size"] ["entries"] (defScope s_stripped) := ⟨rfl, rfl, rfl, by decide +kernel, rfl, by decide +kernel, by decide +kernel⟩
abbrev s_added : Stmt := top 12
theorem sc_added : FnScope ["one", "other", "sums", "first", "second"] ["one", "other"] (defScope s_added) := ⟨rfl, rfl, rfl, by decide +kernel, rfl, by decide +kernel, by decide +kernel⟩
abbrev s_Row___init__ : Stmt := inClass (top 31) 0
theorem sc_Row___init__ : FnScope ["self", "entries"] ["self", "entries"] (defScope s_Row___init__) := ⟨rfl, rfl, rfl, by decide +kernel, rfl, by decide +kernel, by decide +kernel⟩
abbrev s_Row___add__ : Stmt := inClass (top 31) 3
theorem sc_Row___add__ : FnScope ["self", "other"] ["self", "other"] (defScope s_Row___add__) := ⟨rfl, rfl, rfl, by decide +kernel, rfl, by decide +kernel, by decide +kernel⟩
abbrev s_Row_times : Stmt := inClass (top 31) 9
theorem sc_Row_times : FnScope ["self", "number", "worth"] ["self", "number"] (defScope s_Row_times) := ⟨rfl, rfl, rfl, by decide +kernel, rfl, by decide +kernel, by decide +kernel⟩
abbrev s_Row_up : Stmt := inClass (top 31) 11
theorem sc_Row_up : FnScope ["self", "lanes"] ["self", "lanes"] (defScope s_Row_up) := ⟨rfl, rfl, rfl, by decide +kernel, rfl, by decide +kernel, by decide +kernel⟩
abbrev s_Row_carry : Stmt := inClass (top 31) 15
theorem sc_Row_carry : FnScope ["self", "lanes", "width", "carried", "worth"] ["self", "lanes", "width"] (defScope s_Row_carry) := ⟨rfl, rfl, rfl, by decide +kernel, rfl, by decide +kernel, by decide +kernel⟩
abbrev s__law_start : Stmt := top 34
theorem sc__law_start : FnScope ["script", "first"] ["script"] (defScope s__law_start) := ⟨rfl, rfl, rfl, by decide +kernel, rfl, by decide +kernel, by decide +kernel⟩
abbrev s__law_draw : Stmt := top 35
theorem sc__law_draw : FnScope ["state", "many", "drawn", "seed", "mixed"] ["state", "many"] (defScope s__law_draw) := ⟨rfl, rfl, rfl, by decide +kernel, rfl, by decide +kernel, by decide +kernel⟩
abbrev s__law_number : Stmt := top 36
theorem sc__law_number : FnScope ["pen", "size"] ["pen"] (defScope s__law_number) := ⟨rfl, rfl, rfl, by decide +kernel, rfl, by decide +kernel, by decide +kernel⟩
abbrev s__law_at : Stmt := top 37
theorem sc__law_at : FnScope ["entries", "lane"] ["entries", "lane"] (defScope s__law_at) := ⟨rfl, rfl, rfl, by decide +kernel, rfl, by decide +kernel, by decide +kernel⟩
abbrev s__law_entry : Stmt := top 38
theorem sc__law_entry : FnScope ["pen", "width", "size", "ends"] ["pen", "width"] (defScope s__law_entry) := ⟨rfl, rfl, rfl, by decide +kernel, rfl, by decide +kernel, by decide +kernel⟩
abbrev s__law_steps : Stmt := top 39
theorem sc__law_steps : FnScope ["entries", "width", "lanes", "carry", "found", "lane"] ["entries", "width", "lanes"] (defScope s__law_steps) := ⟨rfl, rfl, rfl, by decide +kernel, rfl, by decide +kernel, by decide +kernel⟩
abbrev s_law : Stmt := top 40
theorem sc_law : FnScope ["script", "pen", "width", "lists", "k", "j", "rows", "entries", "whole", "row", "lane", "number", "lanes", "apart"] ["script"] (defScope s_law) := ⟨rfl, rfl, rfl, by decide +kernel, rfl, by decide +kernel, by decide +kernel⟩
structure Txt (K : PySem.W.Frag) (mg : Str → Option Value) : Prop where
  F_check_lanes : ∃ fd, FunD K "check_lanes" "check_lanes" (defArgs s_check_lanes) (defBody s_check_lanes) (defScope s_check_lanes) [] [] (He.fAd K ("check_lanes", none)) fd
  F_check_width : ∃ fd, FunD K "check_width" "check_width" (defArgs s_check_width) (defBody s_check_width) (defScope s_check_width) [] [] (He.fAd K ("check_width", none)) fd
  F_stripped : ∃ fd, FunD K "stripped" "stripped" (defArgs s_stripped) (defBody s_stripped) (defScope s_stripped) [] [] (He.fAd K ("stripped", none)) fd
  F_added : ∃ fd, FunD K "added" "added" (defArgs s_added) (defBody s_added) (defScope s_added) [] [] (He.fAd K ("added", none)) fd
  F_Row___init__ : ∃ fd, FunD K "__init__" "Row.__init__" (defArgs s_Row___init__) (defBody s_Row___init__) (defScope s_Row___init__) [V.ref (He.dflAt ("Row", some "__init__") 0 K)] [] (He.fAd K ("Row", some "__init__")) fd
  F_Row___add__ : ∃ fd, FunD K "__add__" "Row.__add__" (defArgs s_Row___add__) (defBody s_Row___add__) (defScope s_Row___add__) [] [] (He.fAd K ("Row", some "__add__")) fd
  F_Row_times : ∃ fd, FunD K "times" "Row.times" (defArgs s_Row_times) (defBody s_Row_times) (defScope s_Row_times) [] [] (He.fAd K ("Row", some "times")) fd
  F_Row_up : ∃ fd, FunD K "up" "Row.up" (defArgs s_Row_up) (defBody s_Row_up) (defScope s_Row_up) [] [] (He.fAd K ("Row", some "up")) fd
  F_Row_carry : ∃ fd, FunD K "carry" "Row.carry" (defArgs s_Row_carry) (defBody s_Row_carry) (defScope s_Row_carry) [] [] (He.fAd K ("Row", some "carry")) fd
  F__law_start : ∃ fd, FunD K "_law_start" "_law_start" (defArgs s__law_start) (defBody s__law_start) (defScope s__law_start) [] [] (He.fAd K ("_law_start", none)) fd
  F__law_draw : ∃ fd, FunD K "_law_draw" "_law_draw" (defArgs s__law_draw) (defBody s__law_draw) (defScope s__law_draw) [] [] (He.fAd K ("_law_draw", none)) fd
  F__law_number : ∃ fd, FunD K "_law_number" "_law_number" (defArgs s__law_number) (defBody s__law_number) (defScope s__law_number) [] [] (He.fAd K ("_law_number", none)) fd
  F__law_at : ∃ fd, FunD K "_law_at" "_law_at" (defArgs s__law_at) (defBody s__law_at) (defScope s__law_at) [] [] (He.fAd K ("_law_at", none)) fd
  F__law_entry : ∃ fd, FunD K "_law_entry" "_law_entry" (defArgs s__law_entry) (defBody s__law_entry) (defScope s__law_entry) [] [] (He.fAd K ("_law_entry", none)) fd
  F__law_steps : ∃ fd, FunD K "_law_steps" "_law_steps" (defArgs s__law_steps) (defBody s__law_steps) (defScope s__law_steps) [] [] (He.fAd K ("_law_steps", none)) fd
  F_law : ∃ fd, FunD K "law" "law" (defArgs s_law) (defBody s_law) (defScope s_law) [] [] (He.fAd K ("law", none)) fd
  m_check_lanes : mg "check_lanes" = some (.ref (He.fAd K ("check_lanes", none)))
  m_check_width : mg "check_width" = some (.ref (He.fAd K ("check_width", none)))
  m_stripped : mg "stripped" = some (.ref (He.fAd K ("stripped", none)))
  m_added : mg "added" = some (.ref (He.fAd K ("added", none)))
  h_Row___add__ : Meth K (He.ga K "Row") "__add__" (He.fAd K ("Row", some "__add__"))
  h_Row_times : Meth K (He.ga K "Row") "times" (He.fAd K ("Row", some "times"))
  h_Row_up : Meth K (He.ga K "Row") "up" (He.fAd K ("Row", some "up"))
  h_Row_carry : Meth K (He.ga K "Row") "carry" (He.fAd K ("Row", some "carry"))
  m__law_start : mg "_law_start" = some (.ref (He.fAd K ("_law_start", none)))
  m__law_draw : mg "_law_draw" = some (.ref (He.fAd K ("_law_draw", none)))
  m__law_number : mg "_law_number" = some (.ref (He.fAd K ("_law_number", none)))
  m__law_at : mg "_law_at" = some (.ref (He.fAd K ("_law_at", none)))
  m__law_entry : mg "_law_entry" = some (.ref (He.fAd K ("_law_entry", none)))
  m__law_steps : mg "_law_steps" = some (.ref (He.fAd K ("_law_steps", none)))
  m_law : mg "law" = some (.ref (He.fAd K ("law", none)))
  m_Row : mg "Row" = some (.ref (He.ga K "Row"))
  cl_Row : Cls K (He.ga K "Row")
  M_Row : Mk K (He.ga K "Row") (He.fAd K ("Row", some "__init__"))
  n_Row_entries : NoAttr K (He.ga K "Row") "entries"
  z_int : mg "int" = none
  z_len : mg "len" = none
  z_list : mg "list" = none
  z_max : mg "max" = none
  z_range : mg "range" = none
  z_sum : mg "sum" = none
  z_tuple : mg "tuple" = none
  z_zip : mg "zip" = none
  dt_Row___init__ : tupB0 K (He.dflAt ("Row", some "__init__") 0 K) = true
  sf_Row : PySem.W.selfFirst K (He.ga K "Row") = true
section
variable {K : PySem.W.Frag} {mg : Str → Option Value}
noncomputable def Txt.d_check_lanes (T : Txt K mg) : FuncData := T.F_check_lanes.choose
theorem Txt.fn_check_lanes (T : Txt K mg) : FunD K "check_lanes" "check_lanes" (defArgs s_check_lanes) (defBody s_check_lanes) (defScope s_check_lanes) [] [] (He.fAd K ("check_lanes", none)) T.d_check_lanes := T.F_check_lanes.choose_spec
theorem Txt.b_check_lanes (T : Txt K mg) : Binds K T.d_check_lanes ["lanes"] [] := FunD.bindsN T.fn_check_lanes fun _ _ _ _ _ _ us hl => match us, hl with | [_], _ => rfl
noncomputable def Txt.d_check_width (T : Txt K mg) : FuncData := T.F_check_width.choose
theorem Txt.fn_check_width (T : Txt K mg) : FunD K "check_width" "check_width" (defArgs s_check_width) (defBody s_check_width) (defScope s_check_width) [] [] (He.fAd K ("check_width", none)) T.d_check_width := T.F_check_width.choose_spec
theorem Txt.b_check_width (T : Txt K mg) : Binds K T.d_check_width ["width"] [] := FunD.bindsN T.fn_check_width fun _ _ _ _ _ _ us hl => match us, hl with | [_], _ => rfl
noncomputable def Txt.d_stripped (T : Txt K mg) : FuncData := T.F_stripped.choose
theorem Txt.fn_stripped (T : Txt K mg) : FunD K "stripped" "stripped" (defArgs s_stripped) (defBody s_stripped) (defScope s_stripped) [] [] (He.fAd K ("stripped", none)) T.d_stripped := T.F_stripped.choose_spec
theorem Txt.b_stripped (T : Txt K mg) : Binds K T.d_stripped ["entries"] [] := FunD.bindsN T.fn_stripped fun _ _ _ _ _ _ us hl => match us, hl with | [_], _ => rfl
noncomputable def Txt.d_added (T : Txt K mg) : FuncData := T.F_added.choose
theorem Txt.fn_added (T : Txt K mg) : FunD K "added" "added" (defArgs s_added) (defBody s_added) (defScope s_added) [] [] (He.fAd K ("added", none)) T.d_added := T.F_added.choose_spec
theorem Txt.b_added (T : Txt K mg) : Binds K T.d_added ["one", "other"] [] := FunD.bindsN T.fn_added fun _ _ _ _ _ _ us hl => match us, hl with | [_, _], _ => rfl
noncomputable def Txt.d_Row___init__ (T : Txt K mg) : FuncData := T.F_Row___init__.choose
theorem Txt.fn_Row___init__ (T : Txt K mg) : FunD K "__init__" "Row.__init__" (defArgs s_Row___init__) (defBody s_Row___init__) (defScope s_Row___init__) [V.ref (He.dflAt ("Row", some "__init__") 0 K)] [] (He.fAd K ("Row", some "__init__")) T.d_Row___init__ := T.F_Row___init__.choose_spec
theorem Txt.b_Row___init__ (T : Txt K mg) : Binds K T.d_Row___init__ ["self", "entries"] [] := by
  obtain ⟨ds, v, b⟩ := FunD.binds1 (ps := ["self", "entries"]) T.fn_Row___init__ 2 1 (by simp) rfl fun _ _ _ _ _ _ _ us its h1 h2 => match us, its, h1, h2 with | [_, _], [_], _, _ => ⟨_, rfl, rfl⟩
  cases v
  exact b
theorem Txt.bd_Row___init__ (T : Txt K mg) : ∃ ds, Vals [V.ref (He.dflAt ("Row", some "__init__") 0 K)] ds ∧ Binds K T.d_Row___init__ ["self", "entries"] ds := FunD.binds1 (ps := ["self", "entries"]) T.fn_Row___init__ 1 0 (by simp) rfl fun _ _ _ _ _ _ _ us its h1 h2 => match us, its, h1, h2 with | [_], [_], _, _ => ⟨_, rfl, rfl⟩
noncomputable def Txt.d_Row___add__ (T : Txt K mg) : FuncData := T.F_Row___add__.choose
theorem Txt.fn_Row___add__ (T : Txt K mg) : FunD K "__add__" "Row.__add__" (defArgs s_Row___add__) (defBody s_Row___add__) (defScope s_Row___add__) [] [] (He.fAd K ("Row", some "__add__")) T.d_Row___add__ := T.F_Row___add__.choose_spec
theorem Txt.b_Row___add__ (T : Txt K mg) : Binds K T.d_Row___add__ ["self", "other"] [] := FunD.bindsN T.fn_Row___add__ fun _ _ _ _ _ _ us hl => match us, hl with | [_, _], _ => rfl
noncomputable def Txt.d_Row_times (T : Txt K mg) : FuncData := T.F_Row_times.choose
theorem Txt.fn_Row_times (T : Txt K mg) : FunD K "times" "Row.times" (defArgs s_Row_times) (defBody s_Row_times) (defScope s_Row_times) [] [] (He.fAd K ("Row", some "times")) T.d_Row_times := T.F_Row_times.choose_spec
theorem Txt.b_Row_times (T : Txt K mg) : Binds K T.d_Row_times ["self", "number"] [] := FunD.bindsN T.fn_Row_times fun _ _ _ _ _ _ us hl => match us, hl with | [_, _], _ => rfl
noncomputable def Txt.d_Row_up (T : Txt K mg) : FuncData := T.F_Row_up.choose
theorem Txt.fn_Row_up (T : Txt K mg) : FunD K "up" "Row.up" (defArgs s_Row_up) (defBody s_Row_up) (defScope s_Row_up) [] [] (He.fAd K ("Row", some "up")) T.d_Row_up := T.F_Row_up.choose_spec
theorem Txt.b_Row_up (T : Txt K mg) : Binds K T.d_Row_up ["self", "lanes"] [] := FunD.bindsN T.fn_Row_up fun _ _ _ _ _ _ us hl => match us, hl with | [_, _], _ => rfl
noncomputable def Txt.d_Row_carry (T : Txt K mg) : FuncData := T.F_Row_carry.choose
theorem Txt.fn_Row_carry (T : Txt K mg) : FunD K "carry" "Row.carry" (defArgs s_Row_carry) (defBody s_Row_carry) (defScope s_Row_carry) [] [] (He.fAd K ("Row", some "carry")) T.d_Row_carry := T.F_Row_carry.choose_spec
theorem Txt.b_Row_carry (T : Txt K mg) : Binds K T.d_Row_carry ["self", "lanes", "width"] [] := FunD.bindsN T.fn_Row_carry fun _ _ _ _ _ _ us hl => match us, hl with | [_, _, _], _ => rfl
noncomputable def Txt.d__law_start (T : Txt K mg) : FuncData := T.F__law_start.choose
theorem Txt.fn__law_start (T : Txt K mg) : FunD K "_law_start" "_law_start" (defArgs s__law_start) (defBody s__law_start) (defScope s__law_start) [] [] (He.fAd K ("_law_start", none)) T.d__law_start := T.F__law_start.choose_spec
theorem Txt.b__law_start (T : Txt K mg) : Binds K T.d__law_start ["script"] [] := FunD.bindsN T.fn__law_start fun _ _ _ _ _ _ us hl => match us, hl with | [_], _ => rfl
noncomputable def Txt.d__law_draw (T : Txt K mg) : FuncData := T.F__law_draw.choose
theorem Txt.fn__law_draw (T : Txt K mg) : FunD K "_law_draw" "_law_draw" (defArgs s__law_draw) (defBody s__law_draw) (defScope s__law_draw) [] [] (He.fAd K ("_law_draw", none)) T.d__law_draw := T.F__law_draw.choose_spec
theorem Txt.b__law_draw (T : Txt K mg) : Binds K T.d__law_draw ["state", "many"] [] := FunD.bindsN T.fn__law_draw fun _ _ _ _ _ _ us hl => match us, hl with | [_, _], _ => rfl
noncomputable def Txt.d__law_number (T : Txt K mg) : FuncData := T.F__law_number.choose
theorem Txt.fn__law_number (T : Txt K mg) : FunD K "_law_number" "_law_number" (defArgs s__law_number) (defBody s__law_number) (defScope s__law_number) [] [] (He.fAd K ("_law_number", none)) T.d__law_number := T.F__law_number.choose_spec
theorem Txt.b__law_number (T : Txt K mg) : Binds K T.d__law_number ["pen"] [] := FunD.bindsN T.fn__law_number fun _ _ _ _ _ _ us hl => match us, hl with | [_], _ => rfl
noncomputable def Txt.d__law_at (T : Txt K mg) : FuncData := T.F__law_at.choose
theorem Txt.fn__law_at (T : Txt K mg) : FunD K "_law_at" "_law_at" (defArgs s__law_at) (defBody s__law_at) (defScope s__law_at) [] [] (He.fAd K ("_law_at", none)) T.d__law_at := T.F__law_at.choose_spec
theorem Txt.b__law_at (T : Txt K mg) : Binds K T.d__law_at ["entries", "lane"] [] := FunD.bindsN T.fn__law_at fun _ _ _ _ _ _ us hl => match us, hl with | [_, _], _ => rfl
noncomputable def Txt.d__law_entry (T : Txt K mg) : FuncData := T.F__law_entry.choose
theorem Txt.fn__law_entry (T : Txt K mg) : FunD K "_law_entry" "_law_entry" (defArgs s__law_entry) (defBody s__law_entry) (defScope s__law_entry) [] [] (He.fAd K ("_law_entry", none)) T.d__law_entry := T.F__law_entry.choose_spec
theorem Txt.b__law_entry (T : Txt K mg) : Binds K T.d__law_entry ["pen", "width"] [] := FunD.bindsN T.fn__law_entry fun _ _ _ _ _ _ us hl => match us, hl with | [_, _], _ => rfl
noncomputable def Txt.d__law_steps (T : Txt K mg) : FuncData := T.F__law_steps.choose
theorem Txt.fn__law_steps (T : Txt K mg) : FunD K "_law_steps" "_law_steps" (defArgs s__law_steps) (defBody s__law_steps) (defScope s__law_steps) [] [] (He.fAd K ("_law_steps", none)) T.d__law_steps := T.F__law_steps.choose_spec
theorem Txt.b__law_steps (T : Txt K mg) : Binds K T.d__law_steps ["entries", "width", "lanes"] [] := FunD.bindsN T.fn__law_steps fun _ _ _ _ _ _ us hl => match us, hl with | [_, _, _], _ => rfl
noncomputable def Txt.d_law (T : Txt K mg) : FuncData := T.F_law.choose
theorem Txt.fn_law (T : Txt K mg) : FunD K "law" "law" (defArgs s_law) (defBody s_law) (defScope s_law) [] [] (He.fAd K ("law", none)) T.d_law := T.F_law.choose_spec
theorem Txt.b_law (T : Txt K mg) : Binds K T.d_law ["script"] [] := FunD.bindsN T.fn_law fun _ _ _ _ _ _ us hl => match us, hl with | [_], _ => rfl
theorem Txt.ba_law (T : Txt K mg) (s : Shared) (u : Value) : BindsTo s T.d_law ⟨[u], []⟩ [("script", u)] := FunD.bindsA (ps := ["script"]) T.fn_law (fun _ _ _ _ _ _ us hl => match us, hl with | [_], _ => rfl) s [u] rfl
end
def dd_check_lanes : He5.DefA := ⟨fun K => (He.fAd K ("check_lanes", none)), "check_lanes", "check_lanes", defArgs s_check_lanes, defBody s_check_lanes, defScope s_check_lanes, [], []⟩
def dd_check_width : He5.DefA := ⟨fun K => (He.fAd K ("check_width", none)), "check_width", "check_width", defArgs s_check_width, defBody s_check_width, defScope s_check_width, [], []⟩
def dd_stripped : He5.DefA := ⟨fun K => (He.fAd K ("stripped", none)), "stripped", "stripped", defArgs s_stripped, defBody s_stripped, defScope s_stripped, [], []⟩
def dd_added : He5.DefA := ⟨fun K => (He.fAd K ("added", none)), "added", "added", defArgs s_added, defBody s_added, defScope s_added, [], []⟩
def dd_Row___init__ : He5.DefA := ⟨fun K => (He.fAd K ("Row", some "__init__")), "__init__", "Row.__init__", defArgs s_Row___init__, defBody s_Row___init__, defScope s_Row___init__, [.adr (He.dflAt ("Row", some "__init__") 0)], []⟩
def dd_Row___add__ : He5.DefA := ⟨fun K => (He.fAd K ("Row", some "__add__")), "__add__", "Row.__add__", defArgs s_Row___add__, defBody s_Row___add__, defScope s_Row___add__, [], []⟩
def dd_Row_times : He5.DefA := ⟨fun K => (He.fAd K ("Row", some "times")), "times", "Row.times", defArgs s_Row_times, defBody s_Row_times, defScope s_Row_times, [], []⟩
def dd_Row_up : He5.DefA := ⟨fun K => (He.fAd K ("Row", some "up")), "up", "Row.up", defArgs s_Row_up, defBody s_Row_up, defScope s_Row_up, [], []⟩
def dd_Row_carry : He5.DefA := ⟨fun K => (He.fAd K ("Row", some "carry")), "carry", "Row.carry", defArgs s_Row_carry, defBody s_Row_carry, defScope s_Row_carry, [], []⟩
def dd__law_start : He5.DefA := ⟨fun K => (He.fAd K ("_law_start", none)), "_law_start", "_law_start", defArgs s__law_start, defBody s__law_start, defScope s__law_start, [], []⟩
def dd__law_draw : He5.DefA := ⟨fun K => (He.fAd K ("_law_draw", none)), "_law_draw", "_law_draw", defArgs s__law_draw, defBody s__law_draw, defScope s__law_draw, [], []⟩
def dd__law_number : He5.DefA := ⟨fun K => (He.fAd K ("_law_number", none)), "_law_number", "_law_number", defArgs s__law_number, defBody s__law_number, defScope s__law_number, [], []⟩
def dd__law_at : He5.DefA := ⟨fun K => (He.fAd K ("_law_at", none)), "_law_at", "_law_at", defArgs s__law_at, defBody s__law_at, defScope s__law_at, [], []⟩
def dd__law_entry : He5.DefA := ⟨fun K => (He.fAd K ("_law_entry", none)), "_law_entry", "_law_entry", defArgs s__law_entry, defBody s__law_entry, defScope s__law_entry, [], []⟩
def dd__law_steps : He5.DefA := ⟨fun K => (He.fAd K ("_law_steps", none)), "_law_steps", "_law_steps", defArgs s__law_steps, defBody s__law_steps, defScope s__law_steps, [], []⟩
def dd_law : He5.DefA := ⟨fun K => (He.fAd K ("law", none)), "law", "law", defArgs s_law, defBody s_law, defScope s_law, [], []⟩
def fnD : List He5.DefA := [dd_check_lanes, dd_check_width, dd_stripped, dd_added, dd_Row___init__, dd_Row___add__, dd_Row_times, dd_Row_up, dd_Row_carry, dd__law_start, dd__law_draw, dd__law_number, dd__law_at, dd__law_entry, dd__law_steps, dd_law]
def fa : List He.Fa := [.glo "check_lanes", .glo "check_width", .glo "stripped", .glo "added", .meth "Row" "__add__", .meth "Row" "times", .meth "Row" "up", .meth "Row" "carry", .glo "_law_start", .glo "_law_draw", .glo "_law_number", .glo "_law_at", .glo "_law_entry", .glo "_law_steps", .glo "law", .glo "Row", .cls "Row", .mkr "Row", .noat "Row" "entries", .free "int", .free "len", .free "list", .free "max", .free "range", .free "sum", .free "tuple", .free "zip"]
def ex (K : PySem.W.Frag) : Bool := tupB0 K (He.dflAt ("Row", some "__init__") 0 K) && (PySem.W.selfFirst K (He.ga K "Row"))
theorem txt_of {K : PySem.W.Frag} {h : Heap} {mg : Str → Option Value} (X : K.In h) (G : h.Ns mainGlobals mg) (c : SaysB fa fnD ex K) : Txt K mg := by
  have D := c.a
  have x_dt_Row___init__ := (He.ba c.more).1
  have more0 := (He.ba c.more).2
  have x_sf_Row := more0
  exact {
    F_check_lanes := D.def_ 0 (d := dd_check_lanes) rfl,
    F_check_width := D.def_ 1 (d := dd_check_width) rfl,
    F_stripped := D.def_ 2 (d := dd_stripped) rfl,
    F_added := D.def_ 3 (d := dd_added) rfl,
    F_Row___init__ := D.def_ 4 (d := dd_Row___init__) rfl,
    F_Row___add__ := D.def_ 5 (d := dd_Row___add__) rfl,
    F_Row_times := D.def_ 6 (d := dd_Row_times) rfl,
    F_Row_up := D.def_ 7 (d := dd_Row_up) rfl,
    F_Row_carry := D.def_ 8 (d := dd_Row_carry) rfl,
    F__law_start := D.def_ 9 (d := dd__law_start) rfl,
    F__law_draw := D.def_ 10 (d := dd__law_draw) rfl,
    F__law_number := D.def_ 11 (d := dd__law_number) rfl,
    F__law_at := D.def_ 12 (d := dd__law_at) rfl,
    F__law_entry := D.def_ 13 (d := dd__law_entry) rfl,
    F__law_steps := D.def_ 14 (d := dd__law_steps) rfl,
    F_law := D.def_ 15 (d := dd_law) rfl,
    m_check_lanes := He.glo_ok X G (D.fact 0 (f := .glo "check_lanes") rfl),
    m_check_width := He.glo_ok X G (D.fact 1 (f := .glo "check_width") rfl),
    m_stripped := He.glo_ok X G (D.fact 2 (f := .glo "stripped") rfl),
    m_added := He.glo_ok X G (D.fact 3 (f := .glo "added") rfl),
    h_Row___add__ := He.meth_ok (D.fact 4 (f := .meth "Row" "__add__") rfl),
    h_Row_times := He.meth_ok (D.fact 5 (f := .meth "Row" "times") rfl),
    h_Row_up := He.meth_ok (D.fact 6 (f := .meth "Row" "up") rfl),
    h_Row_carry := He.meth_ok (D.fact 7 (f := .meth "Row" "carry") rfl),
    m__law_start := He.glo_ok X G (D.fact 8 (f := .glo "_law_start") rfl),
    m__law_draw := He.glo_ok X G (D.fact 9 (f := .glo "_law_draw") rfl),
    m__law_number := He.glo_ok X G (D.fact 10 (f := .glo "_law_number") rfl),
    m__law_at := He.glo_ok X G (D.fact 11 (f := .glo "_law_at") rfl),
    m__law_entry := He.glo_ok X G (D.fact 12 (f := .glo "_law_entry") rfl),
    m__law_steps := He.glo_ok X G (D.fact 13 (f := .glo "_law_steps") rfl),
    m_law := He.glo_ok X G (D.fact 14 (f := .glo "law") rfl),
    m_Row := He.glo_ok X G (D.fact 15 (f := .glo "Row") rfl),
    cl_Row := He.cls_ok (D.fact 16 (f := .cls "Row") rfl),
    M_Row := He.mkr_ok (D.fact 17 (f := .mkr "Row") rfl),
    n_Row_entries := He.noat_ok (D.fact 18 (f := .noat "Row" "entries") rfl),
    z_int := He.free_ok X G (D.fact 19 (f := .free "int") rfl),
    z_len := He.free_ok X G (D.fact 20 (f := .free "len") rfl),
    z_list := He.free_ok X G (D.fact 21 (f := .free "list") rfl),
    z_max := He.free_ok X G (D.fact 22 (f := .free "max") rfl),
    z_range := He.free_ok X G (D.fact 23 (f := .free "range") rfl),
    z_sum := He.free_ok X G (D.fact 24 (f := .free "sum") rfl),
    z_tuple := He.free_ok X G (D.fact 25 (f := .free "tuple") rfl),
    z_zip := He.free_ok X G (D.fact 26 (f := .free "zip") rfl),
    dt_Row___init__ := x_dt_Row___init__,
    sf_Row := x_sf_Row }
end Pl

set_option Elab.async false
set_option linter.all false
set_option maxRecDepth 100000
set_option maxHeartbeats 4000000
namespace Pl
open PySem PySem.Spec PyProof.Rows L2 RZ
section
variable {P : Program} {w : World} {K : PySem.W.Frag} {mg : Str → Option Value} {base : Heap}
def spNat (lo : Int) : Sp := fun vs H Q _ => ∃ n : Int, vs = [.int n] ∧ lo ≤ n ∧ Q .non H
theorem ok_check_lanes (T : Txt K mg) : FnOk P w K mg base CX0 1 (He.fAd K ("check_lanes", none)) T.d_check_lanes ["lanes"] (spNat 0) := by
  refine FunD.ok T.fn_check_lanes sc_check_lanes (fun vs H Q E h => ?_) (fun cdv A outer s H vs Q E hr h => ?_)
  · obtain ⟨n, rfl, _⟩ := h
    rfl
  · obtain ⟨n, rfl, h0, q⟩ := h
    refine ⟨_, PSs.nox (pss_one (ps_if (pt_cmpR op_lt (pv 0) pe_int (nomark _))
  (pss_one ps_never)
  pss_nil)), ?_⟩
    exact ⟨_, rfl, _, _, rfl, rfl, _, rfl, iteB (fun e => absurd e (by omega)) fun _ => q⟩
theorem ok_check_width (T : Txt K mg) : FnOk P w K mg base CX0 1 (He.fAd K ("check_width", none)) T.d_check_width ["width"] (spNat 1) := by
  refine FunD.ok T.fn_check_width sc_check_width (fun vs H Q E h => ?_) (fun cdv A outer s H vs Q E hr h => ?_)
  · obtain ⟨n, rfl, _⟩ := h
    rfl
  · obtain ⟨n, rfl, h0, q⟩ := h
    refine ⟨_, PSs.nox (pss_one (ps_if (pt_cmpR op_lt (pv 0) pe_int (nomark _))
  (pss_one ps_never)
  pss_nil)), ?_⟩
    exact ⟨_, rfl, _, _, rfl, rfl, _, rfl, iteB (fun e => absurd e (by omega)) fun _ => q⟩
def spStripped (K : PySem.W.Frag) : Sp := fun vs H Q _ => ∃ (a : Addr) (xs : List Int), vs = [.ref a] ∧ Sq K H a (xs.map V.int) ∧ xs.length ≤ 1000000 ∧ ∀ H' p, Same H H' → SqT K H' p ((stp xs).map V.int) → Q (.ref p) H'
theorem ok_stripped (T : Txt K mg) : FnOk P w K mg base CX0 1 (He.fAd K ("stripped", none)) T.d_stripped ["entries"] (spStripped K) := by
  refine FunD.ok T.fn_stripped sc_stripped (fun vs H Q E h => ?_) (fun cdv A outer s H vs Q E hr h => ?_)
  · obtain ⟨a, xs, rfl, _⟩ := h
    rfl
  · obtain ⟨a, xs, rfl, hS, hl, q⟩ := h
    refine ⟨_, PSs.nox (pss_cons (ps_set (i := 1) sc_stripped.nd rfl (Or.inl rfl) (pe_callTy (call_tupleK (K := K)) (by rfl) T.z_tuple (by decide +kernel) (pa_cons (pv 0) pa_nil)))
  (pss_cons (ps_set (i := 2) sc_stripped.nd rfl (Or.inl rfl) (pe_callB (call_lenK (K := K)) (by rfl) T.z_len PySem.boot_len (pa_cons (pv 1) pa_nil)))
  (pss_cons (ps_while PassesOwn.never (PW.pt (pw_and (pt_cmpR op_gt (pv 2) pe_int (nomark _)) (pw_and1 (pt_cmpR op_eq (pe_ix (ix_tupK (K := K)) (pv 1) (pe_op op_sub (pv 2) pe_int) (fun _ _ => rfl)) pe_int (nomark _)))))
  (pss_one (ps_set (i := 2) sc_stripped.nd rfl (Or.inl rfl) (pe_op op_sub (pv 2) pe_int))))
  (pss_one (ps_ret (pe_slice (sl_tupK (K := K)) (pv 1) po_none (po_some (pv 2)))))))), ?_⟩
    refine ⟨_, rfl, _, _, rfl, hS, fun H1 t s1 hT => ?_⟩
    refine ⟨_, rfl, _, _, rfl, .inr hT, ?_⟩
    refine ⟨fun m σ H' => ∃ k : Nat, σ = [some (.ref a), some (.ref t), some (.int (k : Int))] ∧ H' = H1 ∧ m = k ∧ stpN xs k = stpN xs xs.length ∧ k ≤ xs.length, ⟨xs.length, xs.length, by rw [List.length_map] <;> rfl, rfl, rfl, rfl, Nat.le_refl _⟩, ?_⟩
    rintro m σ H' ⟨k, rfl, rfl, rfl, e, hk⟩
    have fin : stpN xs m = m → tRet (tSl (rSlT2 K) (tVar 1) tNoPart (tPart (tVar 2))) { nx := fun _ H' => Q .non H', rt := Q } [some (.ref a), some (.ref t), some (.int (m : Int))] H' := fun e0 => by
      refine ⟨_, rfl, _, rfl, _, rfl, _, _, rfl, hT, fun H2 p s2 hP => q H2 p (s1.trans s2) ?_⟩
      rw [cut_to, ← List.map_take, ← e0, e] at hP
      exact hP
    refine ⟨_, rfl, _, _, rfl, rfl, _, rfl, ?_⟩
    cases m with
    | zero => exact iteB (fun h => absurd h (by decide)) fun _ => iteF (fin rfl)
    | succ n =>
      refine iteB (fun _ => ?_) fun h => absurd (show (0 : Int) < ((n + 1 : Nat) : Int) by omega) h
      refine ⟨_, rfl, _, rfl, _, _, rfl, rfl, _, _, _, _, rfl, rfl, hT, at_ints (n := n) (by omega) (by omega), rfl, _, rfl, ?_⟩
      by_cases z : xs.getD n 0 = 0
      · have ez : decide (V.int (xs.getD n 0) = V.int 0) = true := decide_eq_true (by rw [z])
        rw [ez]
        refine iteT ⟨fun σ H2 => σ = [some (.ref a), some (.ref t), some (.int (n : Int))] ∧ H2 = H', ?_, ?_⟩
        · rintro σ H2 ⟨rfl, rfl⟩
          refine ⟨n, Nat.lt_succ_self _, n, rfl, rfl, rfl, ?_, by omega⟩
          rw [← e]
          show _ = stpN xs (n + 1)
          unfold stpN
          rw [if_pos z]
          cases n <;> rfl
        · refine ⟨_, rfl, _, _, rfl, rfl, ?_, rfl⟩
          show [some (V.ref a), some (V.ref t), some (V.int (((n + 1 : Nat) : Int) - 1))] = _
          rw [show (((n + 1 : Nat) : Int) - 1) = (n : Int) by omega]
      · have ez : decide (V.int (xs.getD n 0) = V.int 0) = false := decide_eq_false (fun h => z (V.int.inj h))
        rw [ez]
        exact iteF (fin (stpN_stop (.inr z)))
def spAdded (K : PySem.W.Frag) : Sp := fun vs H Q _ => ∃ (a b : Addr) (xs ys : List Int), vs = [.ref a, .ref b] ∧ SqT K H a (xs.map V.int) ∧ SqT K H b (ys.map V.int) ∧ xs.length ≤ 100000 ∧ ys.length ≤ 100000 ∧
  ∀ H' p, Same H H' → H' p = some (.lst ((addL xs ys).map V.int)) → Q (.ref p) H'
theorem ok_added (T : Txt K mg) : FnOk P w K mg base CX0 1 (He.fAd K ("added", none)) T.d_added ["one", "other"] (spAdded K) := by
  refine FunD.ok T.fn_added sc_added (fun vs H Q E h => ?_) (fun cdv A outer s H vs Q E hr h => ?_)
  · obtain ⟨a, b, xs, ys, rfl, _⟩ := h
    rfl
  · obtain ⟨a, b, xs, ys, rfl, ha, hb, lx, ly, q⟩ := h
    refine ⟨_, PSs.nox (pss_cons (ps_setLcN (i := 2) (own := [("first", 3), ("second", 4)]) rfl sc_added.nd rfl rfl (sw_true rfl rfl rfl (by decide +kernel)) (pi_zipA (by rfl) T.z_zip (pa_cons (pv 0) (pa_cons (pv 1) pa_nil))) (blkOk_by (own := [("first", 3), ("second", 4)]) (N := ["one", "other", "sums", "first", "second"]) (sc := defScope s_added) (by decide +kernel)) (fun _ _ _ _ _ => (pg_pair (K := K) (i := 3) (j := 4) rfl sc_added.nd rfl rfl (Or.inl rfl) (Or.inl rfl))) (fun _ _ _ _ _ => pts_nil) (fun _ _ _ _ _ => (pe_op op_add (pv 3) (pv 4))))
  (pss_one (ps_ret (pe_op op_catN (pe_op op_catN (pv 2) (pe_callTy (call_listK (K := K)) (by rfl) T.z_list (by decide +kernel) (pa_cons (pe_slice (sl_tupK (K := K)) (pv 0) (po_some (pe_callB (call_lenK (K := K)) (by rfl) T.z_len PySem.boot_len (pa_cons (pv 1) pa_nil))) po_none) pa_nil))) (pe_callTy (call_listK (K := K)) (by rfl) T.z_list (by decide +kernel) (pa_cons (pe_slice (sl_tupK (K := K)) (pv 1) (po_some (pe_callB (call_lenK (K := K)) (by rfl) T.z_len PySem.boot_len (pa_cons (pv 0) pa_nil))) po_none) pa_nil)))))), ?_⟩
    refine ⟨_, rfl, _, rfl, _, _, _, _, rfl, .inr ⟨ha, hb, fun D H1 hD s1 e1 => ?_⟩⟩
    refine lcN_zipT (xs := xs.map V.int) (ys := ys.map V.int) (fun i acc H' => Same H H' ∧ acc = ((List.zipWith (· + ·) xs ys).take i).map V.int) ⟨s1, rfl⟩ (fun i acc H' _ z _ => ⟨z.1.seqT ha, z.1.seqT hb⟩) ?_ ?_
    · intro i x y acc H2 H3 t hx hy z eD s3 hT
      obtain ⟨u, hu, rfl⟩ := map_get hx
      obtain ⟨v, hv, rfl⟩ := map_get hy
      obtain ⟨s, rfl⟩ := z
      refine g_pair hT ⟨rfl, yesT ⟨_, rfl, _, rfl, _, _, rfl, rfl, s3 _ _ eD, ?_, fun H5 b5 e5 => ⟨(s.trans s3).but hD b5, ?_⟩⟩⟩
      · rw [List.length_map, List.length_take, List.length_zipWith]
        exact len_big (by omega)
      · have e : (List.zipWith (· + ·) xs ys)[i]? = some (u + v) := by
          rw [List.getElem?_zipWith, hu, hv]
        rw [take_snoc e, List.map_append]
        rfl
    · rintro acc H2 ⟨s, rfl⟩ eD
      have e0 : (List.zipWith (· + ·) xs ys).take (min (xs.map V.int).length (ys.map V.int).length) = List.zipWith (· + ·) xs ys := List.take_of_length_le (by rw [List.length_zipWith, List.length_map, List.length_map]; exact Nat.le_refl _)
      rw [e0] at eD
      refine ⟨_, rfl, ?_⟩
      refine ⟨_, rfl, _, rfl, _, _, rfl, .inr (s.seqT hb), _, rfl, _, _, rfl, s.seqT ha, fun H3 p3 s3 h3 => ?_⟩
      refine ⟨_, _, rfl, .inr h3, fun H4 p4 s4 n4 e4 => ?_⟩
      refine ⟨_, _, _, _, rfl, rfl, (s3.trans s4) _ _ eD, e4, ?_, fun H5 p5 s5 n5 e5 => ?_⟩
      · refine Nat.le_trans (Nat.add_le_add_left (cutV_length _ _ _) _) (small ?_)
        rw [List.length_map, List.length_zipWith, List.length_map]
        omega
      have s05 : Same H2 H5 := (s3.trans s4).trans s5
      refine ⟨_, rfl, _, rfl, _, _, rfl, .inr ((s.trans s05).seqT ha), _, rfl, _, _, rfl, (s.trans s05).seqT hb, fun H6 p6 s6 h6 => ?_⟩
      refine ⟨_, _, rfl, .inr h6, fun H7 p7 s7 n7 e7 => ?_⟩
      refine ⟨_, _, _, _, rfl, rfl, (s6.trans s7) _ _ e5, e7, ?_, fun H8 p8 s8 n8 e8 => q H8 p8 ?_ ?_⟩
      · refine Nat.le_trans (Nat.add_le_add_left (cutV_length _ _ _) _) (small ?_)
        rw [List.length_append, List.length_map, List.length_zipWith, List.length_map]
        refine Nat.le_trans (Nat.add_le_add_right (Nat.add_le_add_left (cutV_length _ _ _) _) _) ?_
        rw [List.length_map]
        omega
      · exact s.trans (s05.trans ((s6.trans s7).trans s8))
      · rw [e8, List.length_map, List.length_map, cut_from, cut_from]
        unfold addL
        rw [List.map_append, List.map_append, List.map_drop, List.map_drop]
end
end Pl

set_option Elab.async false
set_option linter.all false
set_option maxRecDepth 100000
set_option maxHeartbeats 4000000
namespace Pl
open PySem PySem.Spec PyProof.Rows L2 RZ
section
variable {P : Program} {w : World} {K : PySem.W.Frag} {mg : Str → Option Value} {base : Heap}
/-- what a new row's __init__ leaves -/
def spInit (K : PySem.W.Frag) : Sp := fun vs H Q _ => ∃ (x a dx : Addr) (xs : List Int), vs = [.ref x, .ref a] ∧ H x = some (.ins (He.ga K "Row") dx []) ∧ Sq K H a (xs.map V.int) ∧ xs.length ≤ 1000000 ∧
  ∀ H' t, SameBut x H H' → H' x = some (.ins (He.ga K "Row") dx (RowF t)) → SqT K H' t ((stp xs).map V.int) → Q .non H'
theorem ok_Row___init__ (T : Txt K mg) : FnOk P w K mg base CX0 2 (He.fAd K ("Row", some "__init__")) T.d_Row___init__ ["self", "entries"] (spInit K) := by
  refine FunD.ok T.fn_Row___init__ sc_Row___init__ (fun vs H Q E h => ?_) (fun cdv A outer s H vs Q E hr h => ?_)
  · obtain ⟨x, a, dx, xs, rfl, _⟩ := h
    rfl
  · obtain ⟨x, a, dx, xs, rfl, hx, hS, hl, q⟩ := h
    refine ⟨_, PSs.nox (pss_one (ps_fld (pv 0) (pe_call (ok_stripped T) (hr.mono (by decide)) (by rfl) T.m_stripped T.fn_stripped.kp T.b_stripped .nil pass0 (pa_cons (pv 1) pa_nil)) rfl)), ?_⟩
    refine ⟨_, rfl, a, xs, rfl, hS, hl, fun H1 t s1 hT => ?_⟩
    refine ⟨_, rfl, _, _, _, _, rfl, s1 _ _ hx, T.cl_Row, T.n_Row_entries, (by show 0 < 1000; decide), ?_⟩
    refine q _ t (fun b o n e => ?_) upd_same ?_
    · rw [upd_ne n]
      exact s1 _ _ e
    · rcases hT with (hT | ⟨o, hT⟩) | hT
      · exact .inl (.inl (by rw [upd_ne (ne_of hT (s1 _ _ hx) (by intro z; cases z))]; exact hT))
      · exact .inl (.inr ⟨o, by rw [upd_ne (ne_of hT (s1 _ _ hx) (by intro z; cases z))]; exact hT⟩)
      · exact .inr hT
/-- a row made -/
theorem mk_row {K : PySem.W.Frag} {H : Hp} {a : Addr} {xs : List Int} {Q : VK} {E : XK} (hS : Sq K H a (xs.map V.int)) (hl : xs.length ≤ 1000000) (q : ∀ H' p, Same H H' → RowAt K H' p (stp xs) → Q (.ref p) H') :
    ∀ x dx, H x = none → H dx = none → dx ≠ x → spInit K (.ref x :: ([.ref a] ++ [])) (upd (upd H dx (.own x)) x (.ins (He.ga K "Row") dx [])) (fun v H2 => v = .non ∧ Q (.ref x) H2) E := by
  intro x dx nx ndx ne
  have s0 : Same H (upd (upd H dx (.own x)) x (.ins (He.ga K "Row") dx [])) := (same_upd ndx).upd (by rw [upd_ne ne.symm]; exact nx)
  refine ⟨x, a, dx, xs, rfl, upd_same, s0.sq hS, hl, fun H' t b e hT => ⟨rfl, q H' x (s0.but nx b) ⟨dx, t, e, hT⟩⟩⟩
theorem mk_row0 {K : PySem.W.Frag} {H : Hp} {a : Addr} {xs : List Int} {Q : VK} {E : XK} (hS : Sq K H a (xs.map V.int)) (hl : xs.length ≤ 1000000) (q : ∀ H' p, Same H H' → RowAt K H' p (stp xs) → Q (.ref p) H') :
    ∀ x dx, H x = none → H dx = none → dx ≠ x → spInit K (.ref x :: ([] ++ [.ref a])) (upd (upd H dx (.own x)) x (.ins (He.ga K "Row") dx [])) (fun v H2 => v = .non ∧ Q (.ref x) H2) E := mk_row hS hl q
/-- Row(e): a new row -/
def tRow (K : PySem.W.Frag) (t : TA) : TE := fun σ H Q => t σ H fun vs H1 => ∃ (a : Addr) (xs : List Int), vs = [.ref a] ∧ Sq K H1 a (xs.map V.int) ∧ xs.length ≤ 1000000 ∧ ∀ H' p, Same H1 H' → RowAt K H' p (stp xs) → Q (.ref p) H'
def tRow0 (K : PySem.W.Frag) : TE := fun σ H Q => ∀ H' p, Same H H' → RowAt K H' p [] → Q (.ref p) H'
theorem pe_row {X : Cx} {e : Expr} {es : List Expr} {t : TA} {p pos : Pos} (hK : X.K = K) (T : Txt X.K X.mg) (hr : Room (2 + 1) X.A) (hg : Gl X "Row") (ha : PA X (e :: es) t)
    (he : starEach (e :: es) X.env = (false, eval e X.env) :: starEach es X.env := by rfl) (hpl : (backTo pos (starEach es X.env)).any (·.1) = false := by rfl) : PE X (.Call (.Name "Row" p) (e :: es) [] pos) (tRow K t) := by
  subst hK
  refine (pe_make (E := E0) T.M_Row (ok_Row___init__ T) hr hg T.m_Row T.b_Row___init__ .nil pass0 ha.up (by decide) he hpl).imp fun σ H Q h => ⟨_, h, fun vs H1 ⟨a, xs, e, hS, hl, q⟩ => ?_⟩
  subst e
  exact mk_row hS hl q
theorem pe_row0 {X : Cx} {p pos : Pos} (hK : X.K = K) (T : Txt X.K X.mg) (hr : Room (2 + 1) X.A) (hg : Gl X "Row") : PE X (.Call (.Name "Row" p) [] [] pos) (tRow0 K) := by
  subst hK
  exact (pe_make0 (E := E0) T.M_Row (ok_Row___init__ T) hr hg T.m_Row T.bd_Row___init__.choose_spec.2 T.bd_Row___init__.choose_spec.1 pass0 (by decide)).imp fun σ H Q h => mk_row0 (xs := []) (.inr (tupB0_ok T.dt_Row___init__ _)) (Nat.zero_le _) h
def spAdd (K : PySem.W.Frag) : Sp := fun vs H Q _ => ∃ (p r : Addr) (xs ys : List Int), vs = [.ref p, .ref r] ∧ RowAt K H p xs ∧ RowAt K H r ys ∧ xs.length ≤ 100000 ∧ ys.length ≤ 100000 ∧ ∀ H' u, Same H H' → RowAt K H' u (stp (addL xs ys)) → Q (.ref u) H'
theorem ok_Row___add__ (T : Txt K mg) : FnOk P w K mg base CX0 4 (He.fAd K ("Row", some "__add__")) T.d_Row___add__ ["self", "other"] (spAdd K) := by
  refine FunD.ok T.fn_Row___add__ sc_Row___add__ (fun vs H Q E h => ?_) (fun cdv A outer s H vs Q E hr h => ?_)
  · obtain ⟨p, r, xs, ys, rfl, _⟩ := h
    rfl
  · obtain ⟨p, r, xs, ys, rfl, ⟨dx, t, hp, hT⟩, ⟨dy, u, hr', hU⟩, lx, ly, q⟩ := h
    refine ⟨_, PSs.nox (pss_one (ps_ret (pe_row (K := K) rfl T (hr.mono (by decide)) (by rfl) (pa_cons (pe_call (ok_added T) (hr.mono (by decide)) (by rfl) T.m_added T.fn_added.kp T.b_added .nil pass0 (pa_cons (pe_fldK (K := K) (pv 0) rfl) (pa_cons (pe_fldK (K := K) (pv 1) rfl) pa_nil))) pa_nil)))), ?_⟩
    refine ⟨_, rfl, _, _, _, _, _, rfl, hp, T.cl_Row, T.n_Row_entries, rowF_look _, _, rfl, _, _, _, _, _, rfl, hr', T.cl_Row, T.n_Row_entries, rowF_look _, _, _, _, _, rfl, hT, hU, lx, ly, fun H1 l s1 hL => ?_⟩
    refine ⟨l, addL xs ys, rfl, .inl (SqL.of hL), by rw [addL_length]; omega, fun H2 v s2 hR => q H2 v (s1.trans s2) hR⟩
def mulL (n : Int) (xs : List Int) : List Int := xs.map fun x => x * n
def spTimes (K : PySem.W.Frag) : Sp := fun vs H Q _ => ∃ (p : Addr) (n : Int) (xs : List Int), vs = [.ref p, .int n] ∧ RowAt K H p xs ∧ xs.length ≤ 100000 ∧ (-(2 ^ 64) < n ∧ n < 2 ^ 64) ∧ ∀ H' u, Same H H' → RowAt K H' u (stp (mulL n xs)) → Q (.ref u) H'
theorem ok_Row_times (T : Txt K mg) : FnOk P w K mg base CX0 4 (He.fAd K ("Row", some "times")) T.d_Row_times ["self", "number"] (spTimes K) := by
  refine FunD.ok T.fn_Row_times sc_Row_times (fun vs H Q E h => ?_) (fun cdv A outer s H vs Q E hr h => ?_)
  · obtain ⟨p, n, xs, rfl, _⟩ := h
    rfl
  · obtain ⟨p, n, xs, rfl, ⟨dx, t, hp, hT⟩, lx, hn, q⟩ := h
    refine ⟨_, PSs.nox (pss_one (ps_ret (pe_row (K := K) rfl T (hr.mono (by decide)) (by rfl) (pa_cons (pe_lcN (own := [("worth", 2)]) rfl sc_Row_times.nd (pi_tupK (K := K) (pe_fldK (K := K) (pv 0) rfl)) (blkOk_by (own := [("worth", 2)]) (N := ["self", "number", "worth"]) (sc := defScope s_Row_times) (by decide +kernel)) (fun _ _ _ _ _ => (pg_name (i := 2) sc_Row_times.nd rfl (Or.inl rfl))) (fun _ _ _ _ _ => pts_nil) (fun _ _ _ _ _ => (pe_op op_mul (pv 2) (pv 1)))) pa_nil)))), ?_⟩
    refine ⟨_, rfl, _, _, _, _, _, rfl, hp, T.cl_Row, T.n_Row_entries, rowF_look _, _, rfl, ⟨_, hT⟩, fun D H1 hD s1 e1 => ?_⟩
    refine lcN_tup (xs := xs.map V.int) (fun i acc H' => Same H H' ∧ acc = ((mulL n xs).take i).map V.int) ⟨s1, rfl⟩ (fun i acc H' _ z _ => z.1.seqT hT) ?_ ?_
    · intro i x acc H2 hx z eD
      obtain ⟨u, hu, rfl⟩ := map_get hx
      obtain ⟨s, rfl⟩ := z
      refine ⟨rfl, yesT ⟨_, rfl, _, rfl, _, _, rfl, rfl, .inr hn, eD, ?_, fun H5 b5 e5 => ⟨s.but hD b5, ?_⟩⟩⟩
      · rw [List.length_map, List.length_take, mulL, List.length_map]
        exact len_big (by omega)
      · have e : (mulL n xs)[i]? = some (u * n) := by
          unfold mulL
          rw [List.getElem?_map, hu] <;> rfl
        rw [take_snoc e, List.map_append]
        rfl
    · rintro acc H2 ⟨s, rfl⟩ eD
      have e0 : (mulL n xs).take (xs.map V.int).length = mulL n xs := List.take_of_length_le (by rw [mulL, List.length_map, List.length_map]; exact Nat.le_refl _)
      rw [e0] at eD
      exact ⟨_, mulL n xs, rfl, .inl (SqL.of eD), by rw [mulL, List.length_map]; omega, fun H3 v s3 hR => q H3 v (s.trans s3) hR⟩
def upL (n : Nat) (xs : List Int) : List Int := List.replicate n 0 ++ xs
def spUp (K : PySem.W.Frag) : Sp := fun vs H Q _ => ∃ (p : Addr) (n : Nat) (xs : List Int), vs = [.ref p, .int n] ∧ RowAt K H p xs ∧ xs.length ≤ 100000 ∧ n ≤ 1000 ∧ ∀ H' u, Same H H' → RowAt K H' u (stp (upL n xs)) → Q (.ref u) H'
theorem ok_Row_up (T : Txt K mg) : FnOk P w K mg base CX0 4 (He.fAd K ("Row", some "up")) T.d_Row_up ["self", "lanes"] (spUp K) := by
  refine FunD.ok T.fn_Row_up sc_Row_up (fun vs H Q E h => ?_) (fun cdv A outer s H vs Q E hr h => ?_)
  · obtain ⟨p, n, xs, rfl, _⟩ := h
    rfl
  · obtain ⟨p, n, xs, rfl, ⟨dx, t, hp, hT⟩, lx, hn, q⟩ := h
    refine ⟨_, PSs.nox (pss_cons (ps_expr (pe_call (ok_check_lanes T) (hr.mono (by decide)) (by rfl) T.m_check_lanes T.fn_check_lanes.kp T.b_check_lanes .nil pass0 (pa_cons (pv 1) pa_nil)))
  (pss_one (ps_ret (pe_ifExp (pt_truthK (K := K) (pe_fldK (K := K) (pv 0) rfl) (by intro _; rfl)) (pe_row (K := K) rfl T (hr.mono (by decide)) (by rfl) (pa_cons (pe_op (op_catTK (K := K)) (pe_op (op_repAK (K := K)) (pe_tupK (K := K) (pa_cons pe_int pa_nil)) (pv 1)) (pe_fldK (K := K) (pv 0) rfl)) pa_nil)) (pe_row0 (K := K) rfl T (hr.mono (by decide)) (by rfl)))))), ?_⟩
    refine ⟨_, rfl, _, rfl, by omega, ?_⟩
    refine ⟨_, rfl, _, _, _, _, _, rfl, hp, T.cl_Row, T.n_Row_entries, rowF_look _, _, .inr (.inl ⟨_, hT, rfl⟩), ?_⟩
    cases hx : xs with
    | nil =>
      refine iteF ?_
      refine fun H3 v s3 hR => q H3 v s3 ?_
      subst hx
      have e : stp (upL n []) = [] := by
        have h0 : ∀ k, stpN (upL n []) k = 0 := by
          intro k
          induction k with
          | zero => rfl
          | succ k ih =>
            unfold stpN
            have z : (upL n []).getD k 0 = 0 := by
              unfold upL
              rw [List.append_nil, List.getD_eq_getElem?_getD, List.getElem?_replicate]
              split <;> rfl
            rw [if_pos z, ih]
        unfold stp
        rw [h0, List.take_zero]
      rw [e]
      exact hR
    | cons y ys =>
      refine iteT ?_
      refine ⟨by show 1 ≤ sizeLine; exact small (by omega), fun H1 r s1 hr1 => ?_⟩
      refine ⟨_, rfl, _, _, _, rfl, rfl, hr1, by simp, by omega, by omega, by show 1 ≤ 1000; omega, fun H2 r2 s2 h2 => ?_⟩
      have e2 : (List.replicate ((n : Int).toNat) [V.int 0]).flatten = (List.replicate n (0 : Int)).map V.int := by rw [Int.toNat_natCast, rep0]
      rw [e2] at h2
      have s12 := s1.trans s2
      refine ⟨_, rfl, _, _, _, _, _, rfl, s12 _ _ hp, T.cl_Row, T.n_Row_entries, rowF_look _, _, _, _, _, rfl, rfl, h2, s12.seqT hT, ?_, fun H3 r3 s3 h3 => ?_⟩
      · rw [List.length_map, List.length_replicate, List.length_map]
        exact small (by omega)
      · rw [← List.map_append] at h3
        exact ⟨_, _, rfl, .inr h3, by rw [List.length_append, List.length_replicate]; omega, fun H4 v s4 hR => q H4 v ((s12.trans s3).trans s4) hR⟩
def spCarry (K : PySem.W.Frag) : Sp := fun vs H Q _ => ∃ (p : Addr) (n b : Nat) (xs : List Int), vs = [.ref p, .int n, .int b] ∧ RowAt K H p xs ∧ xs.length ≤ 100000 ∧ 1 ≤ b ∧ b ≤ 1000000 ∧ ∀ H', Same H H' → Q (.int (car xs b n)) H'
theorem ok_Row_carry (T : Txt K mg) : FnOk P w K mg base CX0 2 (He.fAd K ("Row", some "carry")) T.d_Row_carry ["self", "lanes", "width"] (spCarry K) := by
  refine FunD.ok T.fn_Row_carry sc_Row_carry (fun vs H Q E h => ?_) (fun cdv A outer s H vs Q E hr h => ?_)
  · obtain ⟨p, n, b, xs, rfl, _⟩ := h
    rfl
  · obtain ⟨p, n, b, xs, rfl, ⟨dx, t, hp, hT⟩, lx, hb1, hb2, q⟩ := h
    refine ⟨_, PSs.nox (pss_cons (ps_expr (pe_call (ok_check_lanes T) (hr.mono (by decide)) (by rfl) T.m_check_lanes T.fn_check_lanes.kp T.b_check_lanes .nil pass0 (pa_cons (pv 1) pa_nil)))
  (pss_cons (ps_expr (pe_call (ok_check_width T) (hr.mono (by decide)) (by rfl) T.m_check_width T.fn_check_width.kp T.b_check_width .nil pass0 (pa_cons (pv 2) pa_nil)))
  (pss_cons (ps_set (i := 3) sc_Row_carry.nd rfl (Or.inl rfl) pe_int)
  (pss_cons (ps_for PassesOwn.never rfl (pi_tupK (K := K) (pe_slice (sl_tupK (K := K)) (pe_fldK (K := K) (pv 0) rfl) po_none (po_some (pv 1)))) (pg_name (i := 4) sc_Row_carry.nd rfl (Or.inl rfl))
  (pss_one (ps_set (i := 3) sc_Row_carry.nd rfl (Or.inl rfl) (pe_op op_shr (pe_op op_add (pv 4) (pv 3)) (pv 2)))))
  (pss_one (ps_ret (pe_op op_shr (pv 3) (pe_op op_mul (pv 2) (pe_callB (call_max2 rfl) (by rfl) T.z_max (by decide +kernel) (pa_cons pe_int (pa_cons (pe_op op_sub (pv 1) (pe_callB (call_lenK (K := K)) (by rfl) T.z_len PySem.boot_len (pa_cons (pe_fldK (K := K) (pv 0) rfl) pa_nil))) pa_nil))))))))))), ?_⟩
    refine ⟨_, rfl, _, rfl, by omega, ?_⟩
    refine ⟨_, rfl, _, rfl, by omega, ?_⟩
    refine ⟨_, rfl, _, _, _, _, _, rfl, hp, T.cl_Row, T.n_Row_entries, rowF_look _, _, rfl, _, rfl, _, _, rfl, hT, fun H1 t1 s1 h1 => ?_⟩
    rw [cut_to, ← List.map_take] at h1
    refine ⟨_, rfl, ⟨_, h1⟩, for_tup (xs := (xs.take n).map V.int) (fun i σ H' => ∃ z, σ = [some (.ref p), some (.int n), some (.int b), some (.int (car xs b i)), z] ∧ H' = H1) ⟨none, rfl, rfl⟩ (fun i σ H' _ z => by obtain ⟨_, _, rfl⟩ := z; exact h1) ?_ ?_⟩
    · rintro i x σ H' hx ⟨z, rfl, rfl⟩
      obtain ⟨u, hu, rfl⟩ := map_get hx
      have hu2 : xs.getD i 0 = u := by
        rw [List.getElem?_take] at hu
        split at hu
        · rw [List.getD_eq_getElem?_getD, hu] <;> rfl
        · cases hu
      refine ⟨_, rfl, _, rfl, _, _, rfl, rfl, _, rfl, _, _, rfl, rfl, by omega, some (.int u), ?_, rfl⟩
      show [some (V.ref p), some (V.int n), some (V.int b), some (V.int ((u + car xs b i) / 2 ^ (b : Int).toNat)), some (V.int u)] = _
      rw [Int.toNat_natCast, ← hu2]
      rfl
    · rintro σ H' ⟨z, rfl, rfl⟩
      have e2 : (if (n : Int) - ((xs.map V.int).length : Int) > 0 then (n : Int) - ((xs.map V.int).length : Int) else 0) = ((n - xs.length : Nat) : Int) := by
        rw [List.length_map]
        split <;> omega
      refine ⟨_, rfl, _, rfl, _, rfl, _, rfl, _, _, _, _, _, rfl, s1 _ _ hp, T.cl_Row, T.n_Row_entries, rowF_look _, _, _, rfl, .inr (s1.seqT hT), _, _, rfl, rfl, _, _, rfl, _, _, rfl, rfl, .inl ⟨by omega, by omega⟩, _, _, rfl, rfl, ?_, ?_⟩
      · rw [e2]
        exact Int.mul_nonneg (by omega) (by omega)
      · have e1 : ((xs.take n).map V.int).length = min n xs.length := by rw [List.length_map, List.length_take]
        have e3 : ((b : Int) * ((n - xs.length : Nat) : Int)).toNat = b * (n - xs.length) := by rw [← Int.natCast_mul, Int.toNat_natCast]
        show Q (.int (car xs b ((xs.take n).map V.int).length / 2 ^ ((b : Int) * (if (n : Int) - ((xs.map V.int).length : Int) > 0 then (n : Int) - ((xs.map V.int).length : Int) else 0)).toNat)) _
        rw [e1, e2, e3]
        by_cases hn : n ≤ xs.length
        · rw [Nat.min_eq_left hn, show n - xs.length = 0 by omega, Nat.mul_zero]
          show Q (.int (car xs b n / 1)) _
          rw [Int.ediv_one]
          exact q _ s1
        · rw [Nat.min_eq_right (by omega), ← car_far xs b xs.length (n - xs.length) (Nat.le_refl _), show xs.length + (n - xs.length) = n by omega]
          exact q _ s1
end
end Pl

set_option Elab.async false
set_option linter.all false
set_option maxRecDepth 100000
set_option maxHeartbeats 4000000
namespace Pl
open PySem PySem.Spec PyProof.Rows L2 RZ
section
variable {P : Program} {w : World} {K : PySem.W.Frag} {mg : Str → Option Value} {base : Heap}
def spStart (K : PySem.W.Frag) : Sp := fun vs H Q _ => ∃ (a : Addr) (ns : List Int), vs = [.ref a] ∧ SqL K H a (ns.map V.int) ∧ ns.length ≤ 63 ∧ ∀ H' pen c, Same H H' → Pn H' pen c 0 → Q (.ref pen) H'
theorem ok__law_start (T : Txt K mg) : FnOk P w K mg base CX0 1 (He.fAd K ("_law_start", none)) T.d__law_start ["script"] (spStart K) := by
  refine FunD.ok T.fn__law_start sc__law_start (fun vs H Q E h => ?_) (fun cdv A outer s H vs Q E hr h => ?_)
  · obtain ⟨a, ns, rfl, _⟩ := h
    rfl
  · obtain ⟨a, ns, rfl, hS, hl, q⟩ := h
    refine ⟨_, PSs.nox (pss_cons (ps_set (i := 1) sc__law_start.nd rfl (Or.inl rfl) pe_int)
  (pss_cons (ps_ifJ (pt_cmpR op_gt (pe_callB (call_lenK (K := K)) (by rfl) T.z_len PySem.boot_len (pa_cons (pv 0) pa_nil)) pe_int (nomark _))
  (pss_one (ps_set (i := 1) sc__law_start.nd rfl (Or.inl rfl) (pe_ix (ix_listK (K := K)) (pv 0) pe_int (fun _ _ => rfl))))
  pss_nil)
  (pss_one (ps_ret (pe_lstN (pa_cons (pe_callTy (call_listK (K := K)) (by rfl) T.z_list (by decide +kernel) (pa_cons (pv 0) pa_nil)) (pa_cons pe_int (pa_cons (pv 1) (pa_cons pe_int pa_nil))))))))), ?_⟩
    refine ⟨fun σ' H' => ∃ f : Int, σ' = [some (.ref a), some (.int f)] ∧ H' = H, ?_, ?_⟩
    · refine ⟨_, rfl, _, _, rfl, .inl hS, _, _, rfl, rfl, _, rfl, iteB (fun h => ?_) fun _ => ⟨0, rfl, rfl⟩⟩
      rw [List.length_map] at h
      refine ⟨_, rfl, _, _, _, _, rfl, rfl, hS, at_ints (n := 0) rfl (by omega), ns.getD 0 0, rfl, rfl⟩
    · rintro σ' H' ⟨f, rfl, rfl⟩
      refine ⟨_, rfl, _, _, rfl, .inl hS, fun H1 c s1 n1 e1 => ?_⟩
      refine ⟨_, rfl, by show 4 ≤ sizeLine; exact small (by omega), fun H2 pen s2 n2 e2 => ?_⟩
      exact q H2 pen c (s1.trans s2) ⟨ns, 1, f, 0, e2, s2 _ _ e1, hl, by omega, by omega, by omega⟩
theorem keep_pen {H : Hp} {pen c : Addr} {i x k : Int} {o : HO} (h : H pen = some (.lst [.ref c, .int i, .int x, .int k])) : Keep H (upd H pen o) := fun b u e n => by
  by_cases z : b = pen
  · subst z
    rw [h] at e
    cases e
    exact absurd ⟨_, _, _, _, rfl⟩ n
  · rw [upd_ne z]
    exact e
theorem pn_pen {H : Hp} {pen c : Addr} {zs : List Int} {i x k i' x' k' : Int} {m : Nat} (h : H pen = some (.lst [.ref c, .int i, .int x, .int k])) (hc : H c = some (.lst (zs.map V.int))) (hz : zs.length ≤ 63) (h1 : 1 ≤ i') (h2 : 0 ≤ k') (h3 : k' ≤ (m : Int)) :
    Pn (upd H pen (.lst [.ref c, .int i', .int x', .int k'])) pen c m := by
  refine ⟨zs, i', x', k', upd_same, ?_, hz, h1, h2, h3⟩
  rw [upd_ne]
  · exact hc
  · intro e
    subst e
    rw [h] at hc
    injection hc with hc
    injection hc with hc
    exact noPen_ints zs _ _ _ _ hc.symm
def spDraw : Sp := fun vs H Q _ => ∃ (pen c : Addr) (n : Nat) (m : Int), vs = [.ref pen, .int m] ∧ Pn H pen c n ∧ n ≤ 1000000000 ∧ 1 ≤ m ∧ m < 2 ^ 200 ∧ ∀ H' d, Keep H H' → Pn H' pen c (n + 1) → 0 ≤ d → d < m → Q (.int d) H'
theorem fmod_lo {a m : Int} (h : 1 ≤ m) : 0 ≤ a.fmod m := by
  rw [Int.fmod_eq_emod_of_nonneg a (by omega)]
  exact Int.emod_nonneg a (by omega)
theorem fmod_hi {a m : Int} (h : 1 ≤ m) : a.fmod m < m := by
  rw [Int.fmod_eq_emod_of_nonneg a (by omega)]
  exact Int.emod_lt_of_pos a (by omega)
theorem ok__law_draw (T : Txt K mg) : FnOk P w K mg base CX0 1 (He.fAd K ("_law_draw", none)) T.d__law_draw ["state", "many"] spDraw := by
  refine FunD.ok T.fn__law_draw sc__law_draw (fun vs H Q E h => ?_) (fun cdv A outer s H vs Q E hr h => ?_)
  · obtain ⟨pen, c, n, m, rfl, _⟩ := h
    rfl
  · obtain ⟨pen, c, n, m, rfl, ⟨zs, i, x, k, hp, hc, hz, hi, hk0, hk1⟩, hn, hm1, hm2, q⟩ := h
    refine ⟨_, PSs.nox (pss_cons (ps_if (pt_cmpR op_ge (pe_ix (ix_listK (K := K)) (pv 0) pe_int (fun _ _ => rfl)) (pe_op op_pow pe_int pe_int) (nomark _))
  (pss_cons (ps_set (i := 2) sc__law_draw.nd rfl (Or.inl rfl) (pe_op op_modN (pe_callTy call_int1 (by rfl) T.z_int (by decide +kernel) (pa_cons (pe_ix (ix_listK (K := K)) (pv 0) pe_int (fun _ _ => rfl)) pa_nil)) (pv 1)))
  (pss_cons (ps_asg (pe_op op_fdivW (pe_ix (ix_listK (K := K)) (pv 0) pe_int (fun _ _ => rfl)) (pv 1)) (pg_sub (pv 0) pe_int set_list))
  (pss_one (ps_ret (pv 2)))))
  pss_nil)
  (pss_cons (ps_asg (pe_op op_add (pe_ix (ix_listK (K := K)) (pv 0) pe_int (fun _ _ => rfl)) pe_int) (pg_sub (pv 0) pe_int set_list))
  (pss_cons (ps_set (i := 3) sc__law_draw.nd rfl (Or.inl rfl) (pe_op op_add (pe_op op_add (pe_op op_modN (pe_callTy call_int1 (by rfl) T.z_int (by decide +kernel) (pa_cons (pe_ix (ix_listK (K := K)) (pv 0) pe_int (fun _ _ => rfl)) pa_nil)) pe_int) (pe_op op_mul pe_int (pe_ix (ix_listK (K := K)) (pv 0) pe_int (fun _ _ => rfl)))) pe_int))
  (pss_cons (ps_set (i := 4) sc__law_draw.nd rfl (Or.inl rfl) (pe_op op_modN (pe_op op_pow (pv 3) pe_int) pe_int))
  (pss_cons (ps_ifJ (pt_cmpR op_lt (pe_ix (ix_listK (K := K)) (pv 0) pe_int (fun _ _ => rfl)) (pe_callB (call_lenK (K := K)) (by rfl) T.z_len PySem.boot_len (pa_cons (pe_ix (ix_listK (K := K)) (pv 0) pe_int (fun _ _ => rfl)) pa_nil)) (nomark _))
  (pss_cons (ps_asg (pe_ix (ix_listK (K := K)) (pe_ix (ix_listK (K := K)) (pv 0) pe_int (fun _ _ => rfl)) (pe_ix (ix_listK (K := K)) (pv 0) pe_int (fun _ _ => rfl)) (fun _ _ => rfl)) (pg_sub (pv 0) pe_int set_list))
  (pss_one (ps_asg (pe_op op_add (pe_ix (ix_listK (K := K)) (pv 0) pe_int (fun _ _ => rfl)) pe_int) (pg_sub (pv 0) pe_int set_list))))
  pss_nil)
  (pss_one (ps_ret (pe_op op_modN (pe_op op_fdivN (pe_callTy call_int1 (by rfl) T.z_int (by decide +kernel) (pa_cons (pv 4) pa_nil)) pe_int) (pv 1))))))))), ?_⟩
    refine ⟨_, rfl, _, _, _, _, rfl, rfl, SqL.of hp, atI_nat (j := 2) rfl, _, _, rfl, rfl, ⟨by decide, by decide, by decide⟩, _, _, rfl, rfl, _, rfl, iteB (fun _ => ?_) fun _ => ?_⟩
    · refine ⟨_, rfl, _, _, _, _, rfl, rfl, SqL.of hp, atI_nat (j := 2) rfl, .inl ⟨_, rfl, _, rfl, _, _, rfl, rfl, by omega, ?_⟩⟩
      refine ⟨_, rfl, _, _, _, _, rfl, rfl, SqL.of hp, atI_nat (j := 2) rfl, _, rfl, _, _, rfl, rfl, wide_div (b := 200) (by omega) (by omega) (by decide) (by decide), ?_⟩
      refine ⟨_, rfl, _, _, _, 2, rfl, rfl, hp, rfl, ?_⟩
      refine ⟨_, rfl, q _ _ (keep_pen hp) (pn_pen hp hc hz hi hk0 (by omega)) (fmod_lo hm1) (fmod_hi hm1)⟩
    · refine ⟨_, rfl, _, _, _, _, rfl, rfl, SqL.of hp, atI_nat (j := 3) rfl, _, _, rfl, rfl, ?_⟩
      refine ⟨_, rfl, _, _, _, 3, rfl, rfl, hp, rfl, ?_⟩
      have h1 : (upd H pen (.lst ([V.ref c, .int i, .int x, .int k].set 3 (.int (k + 1))))) pen = some (.lst [.ref c, .int i, .int x, .int (k + 1)]) := upd_same
      have hcp : c ≠ pen := by
        intro e
        subst e
        rw [hp] at hc
        injection hc with hc
        injection hc with hc
        exact noPen_ints zs _ _ _ _ hc.symm
      have hc1 : (upd H pen (.lst ([V.ref c, .int i, .int x, .int k].set 3 (.int (k + 1))))) c = some (.lst (zs.map V.int)) := by rw [upd_ne hcp]; exact hc
      have k1 : Keep H (upd H pen (.lst ([V.ref c, .int i, .int x, .int k].set 3 (.int (k + 1))))) := keep_pen hp
      generalize upd H pen (.lst ([V.ref c, .int i, .int x, .int k].set 3 (.int (k + 1)))) = H1 at h1 hc1 k1 ⊢
      refine ⟨_, rfl, _, _, _, _, rfl, rfl, SqL.of h1, atI_nat (j := 2) rfl, .inl ⟨_, rfl, _, _, rfl, rfl, (show (1000000007 : Int) ≠ 0 by decide), ?_⟩⟩
      refine ⟨_, rfl, _, _, _, _, rfl, rfl, SqL.of h1, atI_nat (j := 3) rfl, _, _, rfl, rfl, .inl ⟨by decide, by decide⟩, _, _, rfl, rfl, _, _, rfl, rfl, ?_⟩
      have l0 := fmod_lo (a := x) (m := 1000000007) (by decide)
      have l1 := fmod_hi (a := x) (m := 1000000007) (by decide)
      have sb : (x.fmod 1000000007 + 69621 * (k + 1) + 48271).natAbs < 2 ^ 64 := by omega
      refine ⟨_, rfl, _, _, rfl, rfl, ⟨by decide, by decide, sb⟩, _, _, rfl, rfl, (show (170141183460469231731687303715884105727 : Int) ≠ 0 by decide), ?_⟩
      refine ⟨fun σ' H' => ∃ y, σ' = [some (.ref pen), some (.int m), none, y, some (.int (((x.fmod 1000000007 + 69621 * (k + 1) + 48271) ^ (17 : Int).toNat).fmod 170141183460469231731687303715884105727))] ∧ Keep H1 H' ∧ Pn H' pen c (n + 1), ?_, ?_⟩
      · refine ⟨_, rfl, _, _, _, _, rfl, rfl, SqL.of h1, atI_nat (j := 1) rfl, ?_⟩
        refine ⟨_, rfl, _, _, _, _, rfl, rfl, SqL.of h1, atI_nat (j := 0) rfl, _, _, rfl, .inl (SqL.of hc1), _, _, rfl, rfl, _, rfl, iteB (fun hlt => ?_) fun _ => ⟨_, rfl, Keep.refl _, ⟨zs, i, x, k + 1, h1, hc1, hz, hi, by omega, by omega⟩⟩⟩
        rw [List.length_map] at hlt
        refine ⟨_, rfl, _, _, _, _, rfl, rfl, SqL.of h1, atI_nat (j := 0) rfl, _, rfl, _, _, _, _, rfl, rfl, SqL.of h1, atI_nat (j := 1) rfl, _, _, _, _, rfl, rfl, SqL.of hc1, at_ints (n := i.toNat) (by omega) (by omega), ?_⟩
        refine ⟨_, rfl, _, _, _, 2, rfl, rfl, h1, rfl, ?_⟩
        refine ⟨_, rfl, _, _, _, _, rfl, rfl, SqL.of upd_same, atI_nat (j := 1) rfl, _, _, rfl, rfl, ?_⟩
        refine ⟨_, rfl, _, _, _, 1, rfl, rfl, upd_same, rfl, ?_⟩
        refine ⟨_, rfl, ?_⟩
        rw [upd_upd]
        exact ⟨keep_pen h1, pn_pen h1 hc1 hz (by omega) (by omega) (by omega)⟩
      · rintro σ' H' ⟨y, rfl, k2, p2⟩
        exact ⟨_, rfl, .inl ⟨_, rfl, _, _, rfl, rfl, ⟨by decide, by decide⟩, _, rfl, _, _, rfl, rfl, by omega, q _ _ (k1.trans k2) p2 (fmod_lo hm1) (fmod_hi hm1)⟩⟩
def spNumber : Sp := fun vs H Q _ => ∃ (pen c : Addr) (n : Nat), vs = [.ref pen] ∧ Pn H pen c n ∧ n ≤ 1000000 ∧ ∀ H' (z : Int), Keep H H' → Pn H' pen c (n + 4) → z.natAbs < 2 ^ 100 → Q (.int z) H'
theorem ok__law_number (T : Txt K mg) : FnOk P w K mg base CX0 2 (He.fAd K ("_law_number", none)) T.d__law_number ["pen"] spNumber := by
  refine FunD.ok T.fn__law_number sc__law_number (fun vs H Q E h => ?_) (fun cdv A outer s H vs Q E hr h => ?_)
  · obtain ⟨pen, c, n, rfl, _⟩ := h
    rfl
  · obtain ⟨pen, c, n, rfl, hp, hn, q⟩ := h
    refine ⟨_, PSs.nox (pss_cons (ps_set (i := 1) sc__law_number.nd rfl (Or.inl rfl) (pe_ix (ix_listK (K := K)) (pe_lstN (pa_cons pe_int (pa_cons pe_int (pa_cons pe_int (pa_cons (pe_op op_pow pe_int pe_int) pa_nil))))) (pe_call (ok__law_draw T) (hr.mono (by decide)) (by rfl) T.m__law_draw T.fn__law_draw.kp T.b__law_draw .nil pass0 (pa_cons (pv 0) (pa_cons pe_int pa_nil))) (fun _ _ => rfl)))
  (pss_one (ps_ret (pe_op op_sub (pe_call (ok__law_draw T) (hr.mono (by decide)) (by rfl) T.m__law_draw T.fn__law_draw.kp T.b__law_draw .nil pass0 (pa_cons (pv 0) (pa_cons (pv 1) pa_nil))) (pe_op op_mul (pe_call (ok__law_draw T) (hr.mono (by decide)) (by rfl) T.m__law_draw T.fn__law_draw.kp T.b__law_draw .nil pass0 (pa_cons (pv 0) (pa_cons pe_int pa_nil))) (pe_call (ok__law_draw T) (hr.mono (by decide)) (by rfl) T.m__law_draw T.fn__law_draw.kp T.b__law_draw .nil pass0 (pa_cons (pv 0) (pa_cons (pv 1) pa_nil)))))))), ?_⟩
    refine ⟨_, _, rfl, rfl, ⟨by decide, by decide, by decide⟩, by show 4 ≤ sizeLine; exact small (by omega), fun H1 l s1 n1 e1 => ?_⟩
    refine ⟨_, rfl, pen, c, n, 4, rfl, hp.same s1, by omega, by omega, by omega, fun H2 d k2 p2 d0 d1 => ?_⟩
    have e2 : H2 l = some (.lst [.int 3, .int 20, .int 300, .int ((10 : Int) ^ (30 : Int).toNat)]) := k2.lst (noPen_ints [3, 20, 300, 10 ^ (30 : Int).toNat]) e1
    have k12 : Keep H H2 := (keep_of s1).trans k2
    obtain ⟨v, av, mv⟩ := at_mem (l := [V.int 3, .int 20, .int 300, .int ((10 : Int) ^ (30 : Int).toNat)]) d0 d1
    obtain ⟨z, rfl, z1, z2⟩ : ∃ z : Int, v = .int z ∧ 1 ≤ z ∧ z ≤ 10 ^ 30 := by
      simp only [List.mem_cons, List.not_mem_nil, or_false] at mv
      rcases mv with rfl | rfl | rfl | rfl
      · exact ⟨_, rfl, by decide, by decide⟩
      · exact ⟨_, rfl, by decide, by decide⟩
      · exact ⟨_, rfl, by decide, by decide⟩
      · exact ⟨_, rfl, by decide, by decide⟩
    have zb : z < 2 ^ 200 := Int.lt_of_le_of_lt z2 (by decide)
    refine ⟨_, _, _, _, rfl, rfl, SqL.of e2, av, ?_⟩
    refine ⟨_, rfl, _, rfl, pen, c, n + 1, z, rfl, p2, by omega, z1, zb, fun H3 d3 k3 p3 l3 u3 => ?_⟩
    refine ⟨_, rfl, pen, c, n + 2, 2, rfl, p3, by omega, by omega, by omega, fun H4 d4 k4 p4 l4 u4 => ?_⟩
    refine ⟨_, rfl, _, rfl, pen, c, n + 3, z, rfl, p4, by omega, z1, zb, fun H5 d5 k5 p5 l5 u5 => ?_⟩
    exact ⟨_, _, rfl, rfl, .inl ⟨by omega, by omega⟩, _, _, rfl, rfl, q _ _ (((k12.trans k3).trans k4).trans k5) p5 (by
    have e : d4 = 0 ∨ d4 = 1 := by omega
    rcases e with rfl | rfl
    · rw [Int.zero_mul]
      omega
    · rw [Int.one_mul]
      omega)⟩
def spAt (K : PySem.W.Frag) : Sp := fun vs H Q _ => ∃ (a : Addr) (j : Nat) (xs : List Int), vs = [.ref a, .int j] ∧ SqL K H a (xs.map V.int) ∧ Q (.int (xs.getD j 0)) H
theorem ok__law_at (T : Txt K mg) : FnOk P w K mg base CX0 1 (He.fAd K ("_law_at", none)) T.d__law_at ["entries", "lane"] (spAt K) := by
  refine FunD.ok T.fn__law_at sc__law_at (fun vs H Q E h => ?_) (fun cdv A outer s H vs Q E hr h => ?_)
  · obtain ⟨a, j, xs, rfl, _⟩ := h
    rfl
  · obtain ⟨a, j, xs, rfl, hS, q⟩ := h
    refine ⟨_, PSs.nox (pss_cons (ps_if (pt_cmpR op_lt (pv 1) (pe_callB (call_lenK (K := K)) (by rfl) T.z_len PySem.boot_len (pa_cons (pv 0) pa_nil)) (nomark _))
  (pss_one (ps_ret (pe_ix (ix_listK (K := K)) (pv 0) (pv 1) (fun _ _ => rfl))))
  pss_nil)
  (pss_one (ps_ret pe_int))), ?_⟩
    refine ⟨_, rfl, _, rfl, _, _, rfl, .inl hS, _, _, rfl, rfl, _, rfl, iteB (fun hlt => ?_) fun hge => ?_⟩
    · rw [List.length_map] at hlt
      exact ⟨_, rfl, _, rfl, _, _, _, _, rfl, rfl, hS, at_ints (n := j) rfl (by omega), q⟩
    · rw [List.length_map] at hge
      have e : xs.getD j 0 = 0 := by rw [List.getD_eq_getElem?_getD, List.getElem?_eq_none (by omega)] <;> rfl
      rw [e] at q
      exact q
def spEntry : Sp := fun vs H Q _ => ∃ (pen c : Addr) (n b : Nat), vs = [.ref pen, .int b] ∧ Pn H pen c n ∧ n ≤ 100000 ∧ b ≤ 100000 ∧ ∀ H' z, Keep H H' → Pn H' pen c (n + 5) → Q (.int z) H'
theorem ok__law_entry (T : Txt K mg) : FnOk P w K mg base CX0 3 (He.fAd K ("_law_entry", none)) T.d__law_entry ["pen", "width"] spEntry := by
  refine FunD.ok T.fn__law_entry sc__law_entry (fun vs H Q E h => ?_) (fun cdv A outer s H vs Q E hr h => ?_)
  · obtain ⟨pen, c, n, b, rfl, _⟩ := h
    rfl
  · obtain ⟨pen, c, n, b, rfl, hp, hn, hb, q⟩ := h
    refine ⟨_, PSs.nox (pss_cons (ps_set (i := 2) sc__law_entry.nd rfl (Or.inl rfl) (pe_op op_shlW pe_int (pv 1)))
  (pss_cons (ps_set (i := 3) sc__law_entry.nd rfl (Or.inl rfl) (pe_lstN (pa_cons pe_int (pa_cons (pe_op op_sub (pv 2) pe_int) (pa_cons (pv 2) (pa_cons (pe_un un_neg pe_int) (pa_cons (pe_un un_neg (pv 2)) (pa_cons (pe_op op_fdivN (pv 2) pe_int) (pa_cons (pe_un un_neg (pe_op op_fdivN (pv 2) pe_int)) (pa_cons (pe_call (ok__law_number T) (hr.mono (by decide)) (by rfl) T.m__law_number T.fn__law_number.kp T.b__law_number .nil pass0 (pa_cons (pv 0) pa_nil)) pa_nil))))))))))
  (pss_one (ps_ret (pe_ix (ix_listK (K := K)) (pv 3) (pe_call (ok__law_draw T) (hr.mono (by decide)) (by rfl) T.m__law_draw T.fn__law_draw.kp T.b__law_draw .nil pass0 (pa_cons (pv 0) (pa_cons pe_int pa_nil))) (fun _ _ => rfl)))))), ?_⟩
    refine ⟨_, rfl, _, _, rfl, rfl, shl_ok (i := 1) (n := 1) (by decide) (by omega), ?_⟩
    refine ⟨_, rfl, _, _, rfl, rfl, _, rfl, _, rfl, _, rfl, _, rfl, _, rfl, _, _, rfl, rfl, ⟨by decide, by decide⟩, _, rfl, _, _, rfl, rfl, ⟨by decide, by decide⟩, _, rfl, ?_⟩
    refine ⟨_, rfl, pen, c, n, rfl, hp, by omega, fun H1 z k1 p1 _ => ?_⟩
    refine ⟨by show 8 ≤ sizeLine; exact small (by omega), fun H2 l s2 n2 e2 => ?_⟩
    refine ⟨_, rfl, _, rfl, pen, c, n + 4, 8, rfl, p1.same s2, by omega, by omega, by omega, fun H3 d k3 p3 d0 d1 => ?_⟩
    have e3 : H3 l = some (.lst ([0, ((1 : Int) * 2 ^ (b : Int).toNat) - 1, ((1 : Int) * 2 ^ (b : Int).toNat), -1, -((1 : Int) * 2 ^ (b : Int).toNat), ((1 : Int) * 2 ^ (b : Int).toNat).fdiv 2, -(((1 : Int) * 2 ^ (b : Int).toNat).fdiv 2), z].map V.int)) := k3.lst (noPen_ints _) e2
    obtain ⟨v, av, mv⟩ := at_mem (l := [0, ((1 : Int) * 2 ^ (b : Int).toNat) - 1, ((1 : Int) * 2 ^ (b : Int).toNat), -1, -((1 : Int) * 2 ^ (b : Int).toNat), ((1 : Int) * 2 ^ (b : Int).toNat).fdiv 2, -(((1 : Int) * 2 ^ (b : Int).toNat).fdiv 2), z].map V.int) d0 d1
    obtain ⟨y, _, rfl⟩ := List.mem_map.mp mv
    exact ⟨_, _, _, _, rfl, rfl, SqL.of e3, av, q _ _ ((k1.trans (keep_of s2)).trans k3) p3⟩
def carL (xs : List Int) (b n : Nat) : List Int := (List.range (n + 1)).map fun k => car xs b k
theorem carL_succ (xs : List Int) (b n : Nat) : carL xs b (n + 1) = carL xs b n ++ [car xs b (n + 1)] := by
  unfold carL
  rw [List.range_succ, List.map_append]
  rfl
def spSteps (K : PySem.W.Frag) : Sp := fun vs H Q _ => ∃ (a : Addr) (b n : Nat) (xs : List Int), vs = [.ref a, .int b, .int n] ∧ SqL K H a (xs.map V.int) ∧ n ≤ 1000 ∧ ∀ H' p, Same H H' → H' p = some (.lst ((carL xs b n).map V.int)) → Q (.ref p) H'
theorem ok__law_steps (T : Txt K mg) : FnOk P w K mg base CX0 2 (He.fAd K ("_law_steps", none)) T.d__law_steps ["entries", "width", "lanes"] (spSteps K) := by
  refine FunD.ok T.fn__law_steps sc__law_steps (fun vs H Q E h => ?_) (fun cdv A outer s H vs Q E hr h => ?_)
  · obtain ⟨a, b, n, xs, rfl, _⟩ := h
    rfl
  · obtain ⟨a, b, n, xs, rfl, hS, hn, q⟩ := h
    refine ⟨_, PSs.nox (pss_cons (ps_set (i := 3) sc__law_steps.nd rfl (Or.inl rfl) pe_int)
  (pss_cons (ps_set (i := 4) sc__law_steps.nd rfl (Or.inl rfl) (pe_lstN (pa_cons pe_int pa_nil)))
  (pss_cons (ps_for PassesOwn.never rfl (pi_range1 rfl T.z_range (pa_cons (pv 2) pa_nil)) (pg_name (i := 5) sc__law_steps.nd rfl (Or.inl rfl))
  (pss_cons (ps_set (i := 3) sc__law_steps.nd rfl (Or.inl rfl) (pe_op op_shr (pe_callTy call_int1 (by rfl) T.z_int (by decide +kernel) (pa_cons (pe_op op_add (pe_call (ok__law_at T) (hr.mono (by decide)) (by rfl) T.m__law_at T.fn__law_at.kp T.b__law_at .nil pass0 (pa_cons (pv 0) (pa_cons (pv 5) pa_nil))) (pv 3)) pa_nil)) (pv 1)))
  (pss_one (ps_expr (pe_bm PySem.F.plainAttrs_list PySem.F.slot_list_append PySem.F.type_list_append mt_appendN (pv 4) (pa_cons (pv 3) pa_nil))))))
  (pss_one (ps_ret (pv 4)))))), ?_⟩
    refine ⟨by show 1 ≤ sizeLine; exact small (by omega), fun H1 f s1 n1 e1 => ?_⟩
    refine ⟨_, rfl, _, rfl, by omega, by omega, for_range (n := n) (fun i σ H' => ∃ z, σ = [some (.ref a), some (.int b), some (.int n), some (.int (car xs b i)), some (.ref f), z] ∧ Same H H' ∧ H' f = some (.lst ((carL xs b i).map V.int))) ⟨none, rfl, s1, e1⟩ ?_ ?_⟩
    · rintro i σ H' hi ⟨z, rfl, s, e⟩
      refine ⟨_, rfl, _, rfl, a, i, xs, by rw [Int.zero_add] <;> rfl, s.seq hS, ?_⟩
      refine ⟨_, rfl, _, _, rfl, rfl, .inl ⟨_, rfl, _, rfl, _, _, rfl, rfl, by omega, ?_⟩⟩
      have hlen : (carL xs b i).length = i + 1 := by unfold carL; rw [List.length_map, List.length_range]
      refine ⟨_, rfl, .inl ⟨rfl, _, SqL.of e⟩, _, rfl, f, _, _, rfl, rfl, e, by rw [List.length_map, hlen]; exact len_big (by omega), fun H5 b5 e5 => ?_⟩
      refine ⟨some (.int (0 + (i : Int))), ?_, s.but n1 b5, ?_⟩
      · show [some (V.ref a), some (V.int b), some (V.int n), some (V.int ((xs.getD i 0 + car xs b i) / 2 ^ (b : Int).toNat)), some (V.ref f), some (V.int (0 + (i : Int)))] = _
        rw [Int.toNat_natCast]
        rfl
      · rw [e5, carL_succ, List.map_append]
        show some (HO.lst (List.map V.int (carL xs b i) ++ [V.int ((xs.getD i 0 + car xs b i) / 2 ^ (b : Int).toNat)])) = _
        rw [Int.toNat_natCast]
        rfl
    · rintro σ H' ⟨z, rfl, s, e⟩
      exact ⟨_, rfl, q _ _ s e⟩
end
end Pl

set_option Elab.async false
set_option linter.all false
set_option maxRecDepth 100000
set_option maxHeartbeats 4000000
namespace Pl
open PySem PySem.Spec PyProof.Rows L2 RZ
section
variable {P : Program} {w : World} {K : PySem.W.Frag} {mg : Str → Option Value} {base : Heap}
/-! ### carries of sums, of multiples, of rows moved up -/
def sumG (xss : List (List Int)) (n : Nat) : Int := (xss.map fun xs => xs.getD n 0).sum
def sumC (xss : List (List Int)) (w n : Nat) : Int := (xss.map fun xs => car xs w n).sum
theorem pow_pos' (w : Nat) : (0 : Int) < 2 ^ w := Int.pow_pos (by decide)
theorem sums_step (B : Int) (hB : 0 < B) (w n : Nat) (hw : (2 : Int) ^ w = B) : ∀ xss : List (List Int), ∃ R : Int, sumG xss n + sumC xss w n = B * sumC xss w (n + 1) + R ∧ 0 ≤ R ∧ R ≤ (B - 1) * xss.length
  | [] => ⟨0, by simp [sumG, sumC], Int.le_refl _, by simp⟩
  | xs :: r => by
    obtain ⟨R, e, h0, h1⟩ := sums_step B hB w n hw r
    have g : sumG (xs :: r) n = xs.getD n 0 + sumG r n := by simp [sumG]
    have c : ∀ k, sumC (xs :: r) w k = car xs w k + sumC r w k := fun k => by simp [sumC]
    have q : car xs w (n + 1) = (xs.getD n 0 + car xs w n) / B := by rw [← hw] <;> rfl
    have d := Int.emod_add_mul_ediv (xs.getD n 0 + car xs w n) B
    have m0 := Int.emod_nonneg (xs.getD n 0 + car xs w n) (show B ≠ 0 by omega)
    have m1 := Int.emod_lt_of_pos (xs.getD n 0 + car xs w n) hB
    refine ⟨(xs.getD n 0 + car xs w n) % B + R, ?_, by omega, ?_⟩
    · rw [g, c, c, q, Int.mul_add]
      omega
    · rw [List.length_cons, Int.natCast_add, Int.mul_add]
      omega
theorem div_small {B a D : Int} {r : Int} (hB : 0 < B) (h0 : 0 ≤ D) (h1 : D ≤ B * r - 1) : a ≤ (B * a + D) / B ∧ (B * a + D) / B < a + r := by
  constructor
  · exact Int.le_ediv_of_mul_le hB (by rw [Int.mul_comm]; omega)
  · refine Int.ediv_lt_of_lt_mul hB ?_
    rw [Int.add_mul, Int.mul_comm a B, Int.mul_comm r B]
    omega
theorem car_sum {ws : List Int} {xss : List (List Int)} (w : Nat) (hr : 0 < xss.length) (h : ∀ n, ws.getD n 0 = sumG xss n) : ∀ n, 0 ≤ car ws w n - sumC xss w n ∧ car ws w n - sumC xss w n < xss.length
  | 0 => by
    have e : ∀ yss : List (List Int), sumC yss w 0 = 0 := by
      intro yss
      induction yss with
      | nil => rfl
      | cons a r ih =>
        show (car a w 0 + sumC r w 0) = 0
        rw [ih]
        rfl
    rw [e]
    show 0 ≤ (0 : Int) - 0 ∧ (0 : Int) - 0 < _
    omega
  | n + 1 => by
    obtain ⟨i0, i1⟩ := car_sum w hr h n
    have hB := pow_pos' w
    obtain ⟨R, e, h0, h1⟩ := sums_step _ hB w n rfl xss
    have q : car ws w (n + 1) = ((2 : Int) ^ w * sumC xss w (n + 1) + (R + (car ws w n - sumC xss w n))) / 2 ^ w := by
      show (ws.getD n 0 + car ws w n) / 2 ^ w = _
      rw [h n]
      congr 1
      omega
    have b := div_small (a := sumC xss w (n + 1)) (D := R + (car ws w n - sumC xss w n)) (r := (xss.length : Int)) hB (by omega) (by
      rw [Int.sub_mul] at h1
      omega)
    rw [← q] at b
    omega
theorem car_mul {xs : List Int} (w : Nat) {k : Int} (hk : 1 ≤ k) : ∀ n, 0 ≤ car (xs.map fun x => x * k) w n - k * car xs w n ∧ car (xs.map fun x => x * k) w n - k * car xs w n < k
  | 0 => by
    show 0 ≤ (0 : Int) - k * 0 ∧ (0 : Int) - k * 0 < k
    omega
  | n + 1 => by
    obtain ⟨i0, i1⟩ := car_mul (xs := xs) w hk n
    have hB := pow_pos' w
    have eg : (xs.map fun x => x * k).getD n 0 = xs.getD n 0 * k := by
      rw [List.getD_eq_getElem?_getD, List.getD_eq_getElem?_getD, List.getElem?_map]
      cases xs[n]? <;> simp
    generalize hB' : (2 : Int) ^ w = B at *
    have q1 : car xs w (n + 1) = (xs.getD n 0 + car xs w n) / B := by rw [← hB'] <;> rfl
    have d := Int.emod_add_mul_ediv (xs.getD n 0 + car xs w n) B
    have m0 := Int.emod_nonneg (xs.getD n 0 + car xs w n) (show B ≠ 0 by omega)
    have m1 := Int.emod_lt_of_pos (xs.getD n 0 + car xs w n) hB
    rw [← q1] at d
    generalize (xs.getD n 0 + car xs w n) % B = ρ at *
    have q2 : car (xs.map fun x => x * k) w (n + 1) = (B * (k * car xs w (n + 1)) + (k * ρ + (car (xs.map fun x => x * k) w n - k * car xs w n))) / B := by
      show ((xs.map fun x => x * k).getD n 0 + car (xs.map fun x => x * k) w n) / 2 ^ w = _
      rw [eg, hB']
      congr 1
      have e1 : xs.getD n 0 = ρ + B * car xs w (n + 1) - car xs w n := by omega
      rw [e1, Int.sub_mul, Int.add_mul, Int.mul_comm ρ k, Int.mul_comm (car xs w n) k, Int.mul_comm (B * car xs w (n + 1)) k, ← Int.mul_assoc k B, Int.mul_comm k B, Int.mul_assoc]
      omega
    have hkr : k * ρ ≤ k * (B - 1) := Int.mul_le_mul_of_nonneg_left (by omega) (by omega)
    have hk0 : 0 ≤ k * ρ := Int.mul_nonneg (by omega) m0
    have b := div_small (a := k * car xs w (n + 1)) (D := k * ρ + (car (xs.map fun x => x * k) w n - k * car xs w n)) (r := k) hB (by omega) (by
      rw [Int.mul_sub, Int.mul_comm k B] at hkr
      omega)
    rw [← q2] at b
    omega
theorem car_up (xs : List Int) (w m : Nat) : ∀ n, car (List.replicate m 0 ++ xs) w (n + m) = car xs w n
  | 0 => by
    rw [Nat.zero_add]
    have z : ∀ j, j ≤ m → car (List.replicate m 0 ++ xs) w j = 0 := by
      intro j
      induction j with
      | zero => intro _; rfl
      | succ j ih =>
        intro hj
        show ((List.replicate m 0 ++ xs).getD j 0 + car (List.replicate m 0 ++ xs) w j) / 2 ^ w = 0
        rw [ih (by omega), List.getD_eq_getElem?_getD, List.getElem?_append_left (by rw [List.length_replicate]; omega), List.getElem?_replicate, if_pos (by omega)]
        show ((0 : Int) + 0) / 2 ^ w = 0
        rw [Int.add_zero, Int.zero_ediv]
    exact z m (Nat.le_refl _)
  | n + 1 => by
    rw [show n + 1 + m = (n + m) + 1 by omega]
    show ((List.replicate m 0 ++ xs).getD (n + m) 0 + car (List.replicate m 0 ++ xs) w (n + m)) / 2 ^ w = (xs.getD n 0 + car xs w n) / 2 ^ w
    rw [car_up xs w m n, List.getD_eq_getElem?_getD, List.getElem?_append_right (by rw [List.length_replicate]; omega), List.length_replicate, show n + m - m = n by omega, ← List.getD_eq_getElem?_getD]
theorem sumG_snoc {xss : List (List Int)} {i : Nat} {xs : List Int} (h : xss[i]? = some xs) (n : Nat) : sumG (xss.take (i + 1)) n = sumG (xss.take i) n + xs.getD n 0 := by
  unfold sumG
  rw [take_snoc h, List.map_append, List.sum_append]
  simp
theorem sumC_snoc {xss : List (List Int)} {i : Nat} {xs : List Int} (h : xss[i]? = some xs) (b n : Nat) : (xss.take (i + 1)).map (fun xs => car xs b n) = (xss.take i).map (fun xs => car xs b n) ++ [car xs b n] := by
  rw [take_snoc h, List.map_append]
  rfl
def spLaw (K : PySem.W.Frag) : Sp := fun vs H Q _ => ∃ (a : Addr) (ns : List Int), vs = [.ref a] ∧ SqL K H a (ns.map V.int) ∧ ns.length ≤ 63 ∧ ∀ H', Q (.bl true) H'
theorem ok_law (T : Txt K mg) : FnOk P w K mg base CX0 6 (He.fAd K ("law", none)) T.d_law ["script"] (spLaw K) := by
  refine FunD.ok T.fn_law sc_law (fun vs H Q E h => ?_) (fun cdv A outer s H vs Q E hr h => ?_)
  · obtain ⟨a, ns, rfl, _⟩ := h
    rfl
  · obtain ⟨a, ns, rfl, hS, hl, q⟩ := h
    refine ⟨_, PSs.nox (pss_cons (ps_set (i := 1) sc_law.nd rfl (Or.inr rfl) (pe_call (ok__law_start T) (hr.mono (by decide)) (by rfl) T.m__law_start T.fn__law_start.kp T.b__law_start .nil pass0 (pa_cons (pv 0) pa_nil)))
  (pss_cons (ps_set (i := 2) sc_law.nd rfl (Or.inr rfl) (pe_op op_add pe_int (pe_call (ok__law_draw T) (hr.mono (by decide)) (by rfl) T.m__law_draw T.fn__law_draw.kp T.b__law_draw .nil pass0 (pa_cons (pv 1) (pa_cons (pe_ix (ix_listK (K := K)) (pe_lstN (pa_cons pe_int (pa_cons pe_int (pa_cons pe_int pa_nil)))) (pe_call (ok__law_draw T) (hr.mono (by decide)) (by rfl) T.m__law_draw T.fn__law_draw.kp T.b__law_draw .nil pass0 (pa_cons (pv 1) (pa_cons pe_int pa_nil))) (fun _ _ => rfl)) pa_nil)))))
  (pss_cons (ps_ifJ (pt_cmpR op_eq (pe_call (ok__law_draw T) (hr.mono (by decide)) (by rfl) T.m__law_draw T.fn__law_draw.kp T.b__law_draw .nil pass0 (pa_cons (pv 1) (pa_cons pe_int pa_nil))) pe_int (nomark _))
  (pss_one (ps_set (i := 2) sc_law.nd rfl (Or.inr rfl) (pe_op op_add pe_int (pe_call (ok__law_draw T) (hr.mono (by decide)) (by rfl) T.m__law_draw T.fn__law_draw.kp T.b__law_draw .nil pass0 (pa_cons (pv 1) (pa_cons pe_int pa_nil))))))
  pss_nil)
  (pss_cons (ps_setLcN (i := 3) (own := [("j", 5)]) rfl sc_law.nd rfl rfl (sw_true rfl rfl rfl (by decide +kernel)) (pi_range1 rfl T.z_range (pa_cons (pe_op op_add pe_int (pe_call (ok__law_draw T) (hr.mono (by decide)) (by rfl) T.m__law_draw T.fn__law_draw.kp T.b__law_draw .nil pass0 (pa_cons (pv 1) (pa_cons pe_int pa_nil)))) pa_nil)) (blkOk_by (own := [("j", 5)]) (N := ["script", "pen", "width", "lists", "k", "j", "rows", "entries", "whole", "row", "lane", "number", "lanes", "apart"]) (sc := defScope s_law) (by decide +kernel)) (fun _ _ _ _ _ => (pg_name (i := 5) sc_law.nd rfl (Or.inl rfl))) (fun _ _ _ _ _ => pts_nil) (fun _ _ _ _ _ => (pe_lcN (own := [("k", 4)]) rfl sc_law.nd (pi_range1 rfl T.z_range (pa_cons (pe_call (ok__law_draw T) (hr.mono (by decide)) (by rfl) T.m__law_draw T.fn__law_draw.kp T.b__law_draw .nil pass0 (pa_cons (pv 1) (pa_cons pe_int pa_nil))) pa_nil)) (blkOk_by (own := [("k", 4)]) (N := ["script", "pen", "width", "lists", "k", "j", "rows", "entries", "whole", "row", "lane", "number", "lanes", "apart"]) (sc := { kind := .function, names := [(".0", .local), ("j", .local), ("range", .globalImplicit), ("_law_draw", .globalImplicit), ("pen", .cell), ("width", .cell)], isGenerator := false, isCoroutine := false, more := [] }) (by decide +kernel)) (fun _ _ _ _ _ => (pg_name (i := 4) sc_law.nd rfl (Or.inl rfl))) (fun _ _ _ _ _ => pts_nil) (fun _ _ _ _ _ => (pe_call (ok__law_entry T) (hr.mono (by decide)) (by rfl) T.m__law_entry T.fn__law_entry.kp T.b__law_entry .nil pass0 (pa_cons (pv 1) (pa_cons (pv 2) pa_nil)))))))
  (pss_cons (ps_set (i := 6) sc_law.nd rfl (Or.inr rfl) (pe_lcN (own := [("entries", 7)]) rfl sc_law.nd (pi_listK (K := K) (pv 3)) (blkOk_by (own := [("entries", 7)]) (N := ["script", "pen", "width", "lists", "k", "j", "rows", "entries", "whole", "row", "lane", "number", "lanes", "apart"]) (sc := defScope s_law) (by decide +kernel)) (fun _ _ _ _ _ => (pg_name (i := 7) sc_law.nd rfl (Or.inl rfl))) (fun _ _ _ _ _ => pts_nil) (fun _ _ _ _ _ => (pe_row (K := K) rfl T (hr.mono (by decide)) (by rfl) (pa_cons (pv 7) pa_nil)))))
  (pss_cons (ps_set (i := 8) sc_law.nd rfl (Or.inl rfl) (pe_row0 (K := K) rfl T (hr.mono (by decide)) (by rfl)))
  (pss_cons (ps_for PassesOwn.never rfl (pi_listK (K := K) (pv 6)) (pg_name (i := 9) sc_law.nd rfl (Or.inl rfl))
  (pss_one (ps_set (i := 8) sc_law.nd rfl (Or.inl rfl) (pe_op (op_own T.h_Row___add__ T.sf_Row (ok_Row___add__ T) (hr.mono (by decide)) T.b_Row___add__ pass0) (pv 8) (pv 9)))))
  (pss_cons (ps_for PassesOwn.never rfl (pi_range1 rfl T.z_range (pa_cons (pe_callB (call_lenK (K := K)) (by rfl) T.z_len PySem.boot_len (pa_cons (pv 6) pa_nil)) pa_nil)) (pg_name (i := 5) sc_law.nd rfl (Or.inr rfl))
  (pss_one (ps_if (pt_cmpR (op_neDK (K := K) hr.units) (pe_lcN (own := [("lane", 10)]) rfl sc_law.nd (pi_range1 rfl T.z_range (pa_cons pe_int pa_nil)) (blkOk_by (own := [("lane", 10)]) (N := ["script", "pen", "width", "lists", "k", "j", "rows", "entries", "whole", "row", "lane", "number", "lanes", "apart"]) (sc := defScope s_law) (by decide +kernel)) (fun _ _ _ _ _ => (pg_name (i := 10) sc_law.nd rfl (Or.inl rfl))) (fun _ _ _ _ _ => pts_nil) (fun _ _ _ _ _ => (pe_meth (pe_ix (ix_listK (K := K)) (pv 6) (pv 5) (fun _ _ => rfl)) T.cl_Row T.h_Row_carry (ok_Row_carry T) (hr.mono (by decide)) T.b_Row_carry .nil pass0 (pa_cons (pv 10) (pa_cons (pv 2) pa_nil))))) (pe_call (ok__law_steps T) (hr.mono (by decide)) (by rfl) T.m__law_steps T.fn__law_steps.kp T.b__law_steps .nil pass0 (pa_cons (pe_ix (ix_listK (K := K)) (pv 3) (pv 5) (fun _ _ => rfl)) (pa_cons (pv 2) (pa_cons pe_int pa_nil)))) (nomark _))
  (pss_one (ps_ret pe_bl))
  pss_nil)))
  (pss_cons (ps_set (i := 11) sc_law.nd rfl (Or.inl rfl) (pe_op op_add pe_int (pe_call (ok__law_draw T) (hr.mono (by decide)) (by rfl) T.m__law_draw T.fn__law_draw.kp T.b__law_draw .nil pass0 (pa_cons (pv 1) (pa_cons pe_int pa_nil)))))
  (pss_cons (ps_set (i := 12) sc_law.nd rfl (Or.inl rfl) (pe_call (ok__law_draw T) (hr.mono (by decide)) (by rfl) T.m__law_draw T.fn__law_draw.kp T.b__law_draw .nil pass0 (pa_cons (pv 1) (pa_cons pe_int pa_nil))))
  (pss_cons (ps_for PassesOwn.never rfl (pi_range1 rfl T.z_range (pa_cons pe_int pa_nil)) (pg_name (i := 10) sc_law.nd rfl (Or.inr rfl))
  (pss_cons (ps_set (i := 13) sc_law.nd rfl (Or.inl rfl) (pe_op op_sub (pe_meth (pv 8) T.cl_Row T.h_Row_carry (ok_Row_carry T) (hr.mono (by decide)) T.b_Row_carry .nil pass0 (pa_cons (pv 10) (pa_cons (pv 2) pa_nil))) (pe_callB (call_sumK (K := K) rfl) (by rfl) T.z_sum (by decide +kernel) (pa_cons (pe_lcN (own := [("row", 9)]) rfl sc_law.nd (pi_listK (K := K) (pv 6)) (blkOk_by (own := [("row", 9)]) (N := ["script", "pen", "width", "lists", "k", "j", "rows", "entries", "whole", "row", "lane", "number", "lanes", "apart"]) (sc := defScope s_law) (by decide +kernel)) (fun _ _ _ _ _ => (pg_name (i := 9) sc_law.nd rfl (Or.inl rfl))) (fun _ _ _ _ _ => pts_nil) (fun _ _ _ _ _ => (pe_meth (pv 9) T.cl_Row T.h_Row_carry (ok_Row_carry T) (hr.mono (by decide)) T.b_Row_carry .nil pass0 (pa_cons (pv 10) (pa_cons (pv 2) pa_nil))))) pa_nil))))
  (pss_cons (ps_if (pt_cmpR op_notin_rng (pv 13) (pe_callTy cr_rangeN1 (by rfl) T.z_range (by decide +kernel) (pa_cons (pe_callB (call_lenK (K := K)) (by rfl) T.z_len PySem.boot_len (pa_cons (pv 6) pa_nil)) pa_nil)) (by rfl))
  (pss_one (ps_ret pe_bl))
  pss_nil)
  (pss_cons (ps_if (pt_cmpR op_notin_rng (pe_op op_sub (pe_meth (pe_meth (pe_ix (ix_listK (K := K)) (pv 6) pe_int (fun _ _ => rfl)) T.cl_Row T.h_Row_times (ok_Row_times T) (hr.mono (by decide)) T.b_Row_times .nil pass0 (pa_cons (pv 11) pa_nil)) T.cl_Row T.h_Row_carry (ok_Row_carry T) (hr.mono (by decide)) T.b_Row_carry .nil pass0 (pa_cons (pv 10) (pa_cons (pv 2) pa_nil))) (pe_op op_mul (pv 11) (pe_meth (pe_ix (ix_listK (K := K)) (pv 6) pe_int (fun _ _ => rfl)) T.cl_Row T.h_Row_carry (ok_Row_carry T) (hr.mono (by decide)) T.b_Row_carry .nil pass0 (pa_cons (pv 10) (pa_cons (pv 2) pa_nil))))) (pe_callTy cr_rangeN1 (by rfl) T.z_range (by decide +kernel) (pa_cons (pv 11) pa_nil)) (by rfl))
  (pss_one (ps_ret pe_bl))
  pss_nil)
  (pss_one (ps_if (pt_cmpR op_ne (pe_meth (pe_meth (pe_ix (ix_listK (K := K)) (pv 6) pe_int (fun _ _ => rfl)) T.cl_Row T.h_Row_up (ok_Row_up T) (hr.mono (by decide)) T.b_Row_up .nil pass0 (pa_cons (pv 12) pa_nil)) T.cl_Row T.h_Row_carry (ok_Row_carry T) (hr.mono (by decide)) T.b_Row_carry .nil pass0 (pa_cons (pe_op op_add (pv 10) (pv 12)) (pa_cons (pv 2) pa_nil))) (pe_meth (pe_ix (ix_listK (K := K)) (pv 6) pe_int (fun _ _ => rfl)) T.cl_Row T.h_Row_carry (ok_Row_carry T) (hr.mono (by decide)) T.b_Row_carry .nil pass0 (pa_cons (pv 10) (pa_cons (pv 2) pa_nil))) (nomark _))
  (pss_one (ps_ret pe_bl))
  pss_nil))))))
  (pss_one (ps_ret pe_bl))))))))))))), ?_⟩
    refine ⟨_, rfl, a, ns, rfl, hS, hl, fun H1 pen c s1 p1 => ?_⟩
    refine ⟨_, rfl, by show 3 ≤ sizeLine; exact small (by omega), fun H2 l s2 n2 e2 => ?_⟩
    refine ⟨_, rfl, pen, c, 0, 3, rfl, p1.same s2, by omega, by omega, by omega, fun H3 d3 k3 p3 l3 u3 => ?_⟩
    have e3 : H3 l = some (.lst ([2, 8, 40].map V.int)) := k3.lst (noPen_ints [2, 8, 40]) e2
    obtain ⟨v, av, mv⟩ := at_mem (l := [2, 8, 40].map V.int) l3 u3
    obtain ⟨m, mm, rfl⟩ := List.mem_map.mp mv
    have hm : 1 ≤ m ∧ m ≤ 40 := by
      simp only [List.mem_cons, List.not_mem_nil, or_false] at mm
      omega
    refine ⟨_, _, _, _, rfl, rfl, SqL.of e3, av, ?_⟩
    refine ⟨pen, c, 1, m, rfl, p3, by omega, hm.1, by omega, fun H4 d4 k4 p4 l4 u4 => ?_⟩
    refine ⟨_, _, rfl, rfl, ?_⟩
    refine ⟨fun σ' H' => ∃ b : Nat, σ' = [some (.ref a), some (.ref pen), some (.int b), none, none, none, none, none, none, none, none, none, none, none] ∧ Pn H' pen c 4 ∧ 1 ≤ b ∧ b ≤ 6000, ?_, ?_⟩
    · refine ⟨_, rfl, pen, c, 2, 4, rfl, p4, by omega, by omega, by omega, fun H5 d5 k5 p5 _ _ => ?_⟩
      refine ⟨rfl, _, rfl, iteB (fun _ => ?_) fun _ => ?_⟩
      · refine ⟨_, rfl, pen, c, 3, 1000, rfl, p5, by omega, by omega, by omega, fun H6 d6 k6 p6 l6 u6 => ?_⟩
        refine ⟨_, _, rfl, rfl, (4001 + d6).toNat, ?_, p6, by omega, by omega⟩
        rw [Int.toNat_of_nonneg (by omega)]
        rfl
      · refine ⟨(1 + d4).toNat, ?_, p5.mono (by omega), by omega, by omega⟩
        rw [Int.toNat_of_nonneg (by omega)]
        rfl
    rintro σ' H6 ⟨b, rfl, p6, hb1, hb2⟩
    -- lists
    refine ⟨_, rfl, pen, c, 4, 5, rfl, p6, by omega, by omega, by omega, fun H7 d7 k7 p7 l7 u7 => ?_⟩
    refine ⟨_, _, rfl, rfl, ?_⟩
    refine ⟨_, rfl, by omega, by omega, fun D H8 hD s8 e8 => ?_⟩
    refine lcN_range (fun i acc H' => Keep H7 H' ∧ Pn H' pen c (5 + 40 * i) ∧ ∃ (as : List Addr) (xss : List (List Int)), acc = as.map V.ref ∧ as.length = i ∧ LsAt (fun a xs => a ≠ D ∧ H' a = some (.lst (xs.map V.int)) ∧ xs.length ≤ 6) as xss) ⟨keep_of s8, p7.same s8, [], [], rfl, rfl, LsAt.nil⟩ ?_ ?_
    · rintro i acc H9 hi ⟨k9, p9, as, xss, rfl, hai, hL⟩ eD
      refine ⟨rfl, yesT ?_⟩
      refine ⟨_, rfl, pen, c, 5 + 40 * i, 7, rfl, p9, by omega, by omega, by omega, fun H10 d10 k10 p10 l10 u10 => ?_⟩
      refine ⟨_, rfl, by omega, by omega, fun D2 H11 hD2 s11 e11 => ?_⟩
      have eD10 : H10 D = some (.lst (as.map V.ref)) := k10.lst (noPen_refs _) eD
      refine lcN_range (fun j acc2 H' => Keep H10 H' ∧ Pn H' pen c (6 + 40 * i + 5 * j) ∧ ∃ xs : List Int, acc2 = xs.map V.int ∧ xs.length = j) ⟨keep_of s11, (p10.same s11).mono (by omega), [], rfl, rfl⟩ ?_ ?_
      · rintro j acc2 H12 hj ⟨k12, p12, xs, rfl, hxj⟩ eD2
        refine ⟨rfl, yesT ?_⟩
        refine ⟨_, rfl, _, rfl, pen, c, 6 + 40 * i + 5 * j, b, rfl, p12, by omega, by omega, fun H13 z k13 p13 => ?_⟩
        refine ⟨k13.lst (noPen_ints _) eD2, by rw [List.length_map]; exact len_big (by omega), fun H14 b14 e14 => ⟨(k12.trans k13).but hD2 b14, Pn.but p10 hD2 b14 (p13.mono (by omega)), xs ++ [z], by rw [List.map_append]; rfl, by rw [List.length_append, hxj]; rfl⟩⟩
      · rintro acc2 H15 ⟨k15, p15, xs, rfl, hx⟩ eD2
        have nD : D ≠ D2 := ne_of_none eD10 hD2
        refine ⟨k15.lst (noPen_refs _) eD10, by rw [List.length_map]; exact len_big (by omega), fun H16 b16 e16 => ⟨(k9.trans (k10.trans k15)).but hD b16, Pn.but p7 hD b16 (p15.mono (by omega)), as ++ [D2], xss ++ [xs], by rw [List.map_append]; rfl, by rw [List.length_append, hai]; rfl, ?_⟩⟩
        refine (hL.mono fun a' ys hy => ⟨hy.1, b16 _ _ hy.1 ((k10.trans k15).lst (noPen_ints _) hy.2.1), hy.2.2⟩).snoc ⟨nD.symm, b16 _ _ nD.symm eD2, by omega⟩
    rintro acc H17 ⟨k17, p17, as, xss, rfl, hal, hL⟩ eD
    have hxl : xss.length = as.length := hL.1.symm
    have hx6 : ∀ (i : Nat) (xs : List Int), xss[i]? = some xs → xs.length ≤ 6 := fun i xs e => hL.lens (fun a xs h => h.2.2) e
    -- rows
    refine ⟨_, rfl, D, rfl, ⟨_, SqL.of eD⟩, fun E H18 hE s18 e18 => ?_⟩
    refine lcN_list (xs := as.map V.ref) (fun i acc H' => Same H17 H' ∧ ∃ rs : List Addr, acc = rs.map V.ref ∧ LsAt (fun p xs => RowAt K H' p (stp xs)) rs (xss.take i)) ⟨s18, [], rfl, LsAt.nil⟩ (fun i acc H' _ z _ => SqL.of (z.1 _ _ eD)) ?_ ?_
    · rintro i x acc H19 hx ⟨s19, rs, rfl, hR⟩ eE
      obtain ⟨u, hu, rfl⟩ := map_getR hx
      obtain ⟨xs, hxs, hne, hux, hlx⟩ := hL.get hu
      refine ⟨rfl, yesT ⟨_, rfl, u, xs, rfl, .inl (SqL.of (s19 _ _ hux)), by omega, fun H20 p s20 hp => ?_⟩⟩
      have eE2 := s20 _ _ eE
      refine ⟨eE2, ?_, fun H21 b21 e21 => ⟨(s19.trans s20).but hE b21, rs ++ [p], by rw [List.map_append]; rfl, ?_⟩⟩
      · rw [List.length_map, hR.1, List.length_take]
        exact len_big (by omega)
      · rw [take_snoc hxs]
        exact (hR.mono fun p' ys hy => (hy.same s20).but eE2 b21).snoc (hp.but eE2 b21)
    rintro acc H22 ⟨s22, rs, rfl, hR⟩ eE
    rw [List.length_map, List.take_of_length_le (by omega)] at hR
    have hrl : rs.length = xss.length := hR.1
    have eD22 := s22 _ _ eD
    have p22 := p17.same s22
    -- whole
    refine fun H23 w0 s23 hw0 => ?_
    refine ⟨_, rfl, E, rfl, ⟨_, SqL.of (s23 _ _ eE)⟩, for_list (xs := rs.map V.ref) (fun i σ H' => ∃ wh z ws, σ = [some (.ref a), some (.ref pen), some (.int b), some (.ref D), none, none, some (.ref E), none, some (.ref wh), z, none, none, none, none] ∧ Same H22 H' ∧ RowAt K H' wh ws ∧ ws.length ≤ 6 ∧ ∀ n, ws.getD n 0 = sumG (xss.take i) n)
      ⟨w0, none, _, rfl, s23, hw0, by show 0 ≤ 6; omega, fun n => rfl⟩ (fun i σ H' _ z => by obtain ⟨_, _, _, _, s, _⟩ := z; exact SqL.of (s _ _ eE)) ?_ ?_⟩
    · rintro i x σ H' hx ⟨wh, z, ws, rfl, s, hw, hwl, hws⟩
      obtain ⟨p, hp, rfl⟩ := map_getR hx
      obtain ⟨xs, hxs, hrow⟩ := hR.get hp
      have hrow' := hrow.same s
      obtain ⟨dx1, t1, g1, g1'⟩ := id hw
      obtain ⟨dx2, t2, g2, g2'⟩ := id hrow'
      have l6 := hx6 i xs hxs
      have ls := stp_length xs
      refine ⟨_, rfl, _, rfl, _, _, _, _, _, _, rfl, rfl, g1, g2, wh, p, ws, stp xs, rfl, hw, hrow', by omega, by omega, fun H'' u s' hu => ?_⟩
      refine ⟨u, _, _, rfl, s.trans s', hu, ?_, fun n => ?_⟩
      · refine Nat.le_trans (stp_length _) ?_
        rw [addL_length]
        omega
      · rw [stp_get, addL_get, stp_get, hws, sumG_snoc hxs]
    rintro σ H24 ⟨wh, z9, ws, rfl, s24, hw, hwl, hws⟩
    rw [List.length_map, List.take_of_length_le (by omega)] at hws
    clear hw0 s23
    -- each row's carries
    have hrn : rs.length = (1 + d7).toNat := by rw [hrl, hxl, hal]
    refine ⟨_, rfl, _, _, rfl, .inl (SqL.of (s24 _ _ eE)), _, rfl, by omega, by rw [List.length_map]; omega, for_range (lo := 0) (n := ((rs.map V.ref).length : Int).toNat) (fun i σ H' => ∃ z, σ = [some (.ref a), some (.ref pen), some (.int b), some (.ref D), none, z, some (.ref E), none, some (.ref wh), z9, none, none, none, none] ∧ Same H24 H') ⟨none, rfl, Same.refl _⟩ ?_ ?_⟩
    · rintro i σ H' hi ⟨z, rfl, s⟩
      have hi' : i < rs.length := by
        rw [List.length_map] at hi
        omega
      obtain ⟨p, hp⟩ : ∃ p, rs[i]? = some p := ⟨_, List.getElem?_eq_getElem hi'⟩
      obtain ⟨xs, hxs, hrow⟩ := hR.get hp
      have hrow' := hrow.same (s24.trans s)
      obtain ⟨dx, t, g1, g2⟩ := id hrow'
      obtain ⟨ai, hai⟩ : ∃ u, as[i]? = some u := ⟨_, List.getElem?_eq_getElem (by omega)⟩
      obtain ⟨hne, hux, hlx⟩ := hL.2 i ai xs hai hxs
      have ls := stp_length xs
      have eE' := s _ _ (s24 _ _ eE)
      have eD' := s _ _ (s24 _ _ eD22)
      have hux' := s _ _ (s24 _ _ (s22 _ _ hux))
      refine ⟨_, rfl, by decide, by decide, fun L Ha hLn sa ea => ?_⟩
      refine lcN_range (lo := 0) (n := (9 : Int).toNat) (fun k acc H'' => Same H' H'' ∧ acc = ((List.range k).map fun k => car (stp xs) b k).map V.int) ⟨sa, rfl⟩ ?_ ?_
      · rintro k acc Hb hk ⟨sb, rfl⟩ eL
        refine ⟨rfl, yesT ?_⟩
        refine ⟨_, rfl, _, rfl, _, _, _, _, rfl, rfl, SqL.of (sb _ _ eE'), at_refs (n := i) (by rw [Int.zero_add] <;> rfl) hp, p, dx, _, rfl, sb _ _ g1, rowF_none _ (by decide +kernel), _, rfl, _, rfl, p, k, b, stp xs, by rw [Int.zero_add] <;> rfl, hrow'.same sb, by omega, hb1, by omega, fun Hc sc => ?_⟩
        refine ⟨sc _ _ eL, ?_, fun Hd bd ed => ⟨(sb.trans sc).but hLn bd, ?_⟩⟩
        · rw [List.length_map, List.length_map, List.length_range]
          have : k < 9 := hk
          exact len_big (by omega)
        · rw [List.range_succ, List.map_append, List.map_append]
          rfl
      · rintro acc Hb ⟨sb, rfl⟩ eL
        refine ⟨_, rfl, _, rfl, _, _, _, _, rfl, rfl, SqL.of (sb _ _ eD'), at_refs (n := i) (by rw [Int.zero_add] <;> rfl) hai, _, rfl, ai, b, 8, xs, rfl, SqL.of (sb _ _ hux'), by omega, fun Hc pl sc ec => ?_⟩
        have e : (List.range (9 : Int).toNat).map (fun k => car (stp xs) b k) = carL xs b 8 := by
          unfold carL
          show (List.range 9).map _ = (List.range 9).map _
          exact List.map_congr_left fun k _ => car_stp xs b k
        rw [e] at eL
        refine ⟨_, _, dp_list (SqL.of (sc _ _ eL)), dp_list (SqL.of ec), sh_list _, sh_list _, _, rfl, ?_⟩
        rw [eqv_list, decide_eq_true rfl]
        exact iteF ⟨_, rfl, s.trans (sb.trans sc)⟩
    rintro σ H25 ⟨z5, rfl, s25⟩
    have p25 : Pn H25 pen c 205 := (p22.same (s24.trans s25)).mono (by omega)
    refine ⟨_, rfl, pen, c, 205, 9, rfl, p25, by omega, by omega, by omega, fun H26 d26 k26 p26 l26 u26 => ?_⟩
    refine ⟨_, _, rfl, rfl, ?_⟩
    refine ⟨_, rfl, pen, c, 206, 4, rfl, p26, by omega, by omega, by omega, fun H27 d27 k27 p27 l27 u27 => ?_⟩
    obtain ⟨m2, rfl⟩ := Int.eq_ofNat_of_zero_le l27
    have kk : Keep H24 H27 := (keep_of s25).trans (k26.trans k27)
    have eE27 : H27 E = some (.lst (rs.map V.ref)) := kk.lst (noPen_refs _) (s24 _ _ eE)
    have hR27 : LsAt (fun p xs => RowAt K H27 p (stp xs)) rs xss := hR.mono fun p xs h => (h.same s24).keep kk
    have hw27 : RowAt K H27 wh ws := hw.keep kk
    clear hR hw
    refine ⟨_, rfl, by decide, by decide, for_range (lo := 0) (n := (9 : Int).toNat) (fun i σ H' => ∃ y10 y13, σ = [some (.ref a), some (.ref pen), some (.int b), some (.ref D), none, z5, some (.ref E), none, some (.ref wh), z9, y10, some (.int (1 + d26)), some (.int (m2 : Int)), y13] ∧ Same H27 H') ⟨none, none, rfl, Same.refl _⟩ ?_ ?_⟩
    · rintro i σ H' hi ⟨y10, y13, rfl, s⟩
      have hi9 : i < 9 := hi
      obtain ⟨dxw, tw, gw, gw'⟩ := id (hw27.same s)
      have eE' := s _ _ eE27
      obtain ⟨p0, hp0⟩ : ∃ p, rs[0]? = some p := ⟨_, List.getElem?_eq_getElem (by omega)⟩
      obtain ⟨xs0, hxs0, hrow0⟩ := hR27.get hp0
      have l0 := hx6 0 xs0 hxs0
      have ls0 := stp_length xs0
      -- apart = whole.carry(lane, width) - sum(..)
      refine ⟨_, rfl, wh, dxw, _, rfl, gw, rowF_none _ (by decide +kernel), _, rfl, _, rfl, wh, i, b, ws, by rw [Int.zero_add] <;> rfl, hw27.same s, by omega, hb1, by omega, fun Ha sa => ?_⟩
      refine ⟨_, rfl, E, rfl, ⟨_, SqL.of (sa _ _ eE')⟩, fun L Hb hLn sb eb => ?_⟩
      refine lcN_list (xs := rs.map V.ref) (fun k acc H'' => Same Ha H'' ∧ acc = ((xss.take k).map (fun xs => car xs b i)).map V.int) ⟨sb, rfl⟩ (fun k acc H'' _ z _ => SqL.of (z.1 _ _ (sa _ _ eE'))) ?_ ?_
      · rintro k x acc Hc hx ⟨sc, rfl⟩ eL
        obtain ⟨p, hp, rfl⟩ := map_getR hx
        obtain ⟨xs, hxs, hrow⟩ := hR27.get hp
        have l6 := hx6 k xs hxs
        have ls := stp_length xs
        have sall := (s.trans sa).trans sc
        obtain ⟨dx, t, g1, g2⟩ := id (hrow.same sall)
        refine ⟨rfl, yesT ?_⟩
        refine ⟨_, rfl, p, dx, _, rfl, g1, rowF_none _ (by decide +kernel), _, rfl, _, rfl, p, i, b, stp xs, by rw [Int.zero_add] <;> rfl, hrow.same sall, by omega, hb1, by omega, fun Hd sd => ?_⟩
        refine ⟨sd _ _ eL, ?_, fun He be ee => ⟨(sc.trans sd).but hLn be, ?_⟩⟩
        · rw [List.length_map, List.length_map, List.length_take]
          exact len_big (by omega)
        · rw [sumC_snoc hxs, List.map_append, car_stp]
          rfl
      rintro acc Hc ⟨sc, rfl⟩ eL
      rw [List.length_map, List.take_of_length_le (by omega)] at eL
      have sac := (s.trans sa).trans sc
      refine ⟨L, _, rfl, SqL.of eL, _, _, rfl, rfl, ?_⟩
      have ca := car_sum (ws := ws) (xss := xss) b (by omega) hws i
      -- if apart not in range(len(rows))
      refine ⟨_, rfl, _, rfl, _, _, rfl, .inl (SqL.of (sac _ _ eE27)), _, rfl, fun Hd pr sd er => ?_⟩
      refine ⟨_, _, _, _, rfl, rfl, er, _, rfl, iteNS ?_ ?_⟩
      · rw [List.length_map, hrl]
        exact ca
      -- rows[0].times(number)
      have cb := car_mul (xs := stp xs0) b (show (1 : Int) ≤ 1 + d26 by omega) i
      have sad := sac.trans sd
      obtain ⟨dx0, t0, g0, g0'⟩ := id (hrow0.same sad)
      refine ⟨_, rfl, _, _, _, _, rfl, rfl, SqL.of (sad _ _ eE27), at_refs (n := 0) rfl hp0, p0, dx0, _, rfl, g0, rowF_none _ (by decide +kernel), _, rfl, p0, 1 + d26, stp xs0, rfl, hrow0.same sad, by omega, ⟨by omega, by omega⟩, fun He u se hu => ?_⟩
      obtain ⟨dxu, tu, gu, gu'⟩ := id hu
      have lm : (stp (mulL (1 + d26) (stp xs0))).length ≤ 100000 := by
        have := stp_length (mulL (1 + d26) (stp xs0))
        unfold mulL at this ⊢
        rw [List.length_map] at this
        omega
      refine ⟨u, dxu, _, rfl, gu, rowF_none _ (by decide +kernel), _, rfl, _, rfl, u, i, b, _, by rw [Int.zero_add] <;> rfl, hu, lm, hb1, by omega, fun Hf sf => ?_⟩
      have saf := (sad.trans se).trans sf
      refine ⟨_, rfl, _, rfl, _, _, _, _, rfl, rfl, SqL.of (saf _ _ eE27), at_refs (n := 0) rfl hp0, p0, dx0, _, rfl, (se.trans sf) _ _ g0, rowF_none _ (by decide +kernel), _, rfl, _, rfl, p0, i, b, stp xs0, by rw [Int.zero_add] <;> rfl, hrow0.same saf, by omega, hb1, by omega, fun Hg sg => ?_⟩
      refine ⟨_, _, rfl, rfl, .inl ⟨by omega, by omega⟩, _, _, rfl, rfl, ?_⟩
      refine ⟨_, rfl, _, rfl, fun Hh pr2 sh er2 => ?_⟩
      refine ⟨_, _, _, _, rfl, rfl, er2, _, rfl, iteNS ?_ ?_⟩
      · rw [car_stp]
        exact cb
      -- rows[0].up(lanes)
      have sah := (saf.trans sg).trans sh
      refine ⟨_, rfl, _, _, _, _, rfl, rfl, SqL.of (sah _ _ eE27), at_refs (n := 0) rfl hp0, p0, dx0, _, rfl, sh _ _ (sg _ _ ((se.trans sf) _ _ g0)), rowF_none _ (by decide +kernel), _, rfl, p0, m2, stp xs0, rfl, hrow0.same sah, by omega, by omega, fun Hi v si hv => ?_⟩
      obtain ⟨dxv, tv, gv, gv'⟩ := id hv
      have lu : (stp (upL m2 (stp xs0))).length ≤ 100000 := by
        have := stp_length (upL m2 (stp xs0))
        unfold upL at this ⊢
        rw [List.length_append, List.length_replicate] at this
        omega
      refine ⟨v, dxv, _, rfl, gv, rowF_none _ (by decide +kernel), _, rfl, _, rfl, _, _, rfl, rfl, _, rfl, v, i + m2, b, _, by rw [Int.zero_add, Int.natCast_add] <;> rfl, hv, lu, hb1, by omega, fun Hj sj => ?_⟩
      have saj := (sah.trans si).trans sj
      refine ⟨_, rfl, _, _, _, _, rfl, rfl, SqL.of (saj _ _ eE27), at_refs (n := 0) rfl hp0, p0, dx0, _, rfl, sj _ _ (si _ _ (sh _ _ (sg _ _ ((se.trans sf) _ _ g0)))), rowF_none _ (by decide +kernel), _, rfl, _, rfl, p0, i, b, stp xs0, by rw [Int.zero_add] <;> rfl, hrow0.same saj, by omega, hb1, by omega, fun Hk sk => ?_⟩
      refine ⟨rfl, _, rfl, iteNS ?_ ?_⟩
      · rw [car_stp]
        unfold upL
        rw [car_up]
      · exact ⟨_, _, rfl, (saj.trans sk)⟩
    rintro σ H28 ⟨y10, y13, rfl, s28⟩
    exact q H28
end
end Pl

set_option Elab.async false
set_option linter.all false
set_option maxRecDepth 100000
set_option maxHeartbeats 0
namespace Pl
open PySem PySem.Spec PyProof.Rows L2 RZ
abbrev R : PySem.W.OpenRow := PySem.W.OpenLaw.row PySem.Challenge.rw_packedlanes_k04_carries
def loose : List Str := (["_wall", "LanesError", "BadWidth", "BadLanes", "NotMonic", "_SHORT_WORDS", "_FEW_ENTRIES", "check_lanes", "check_width", "stripped", "added", "negated", "joined", "cut_in_two", "plain_digits", "balanced_size", "balanced_digits", "_words", "_greatest_bits", "_product_width", "_product_steps", "_packing_pays", "_product_by_pairs", "product", "_quotient_by_lanes", "quotient", "quotient_and_rest", "rest_row", "Row", "_check_monic"] : List Str) ++ (["_law_start", "_law_draw", "_law_number", "_law_at", "_law_entry", "_law_steps"] : List Str)
abbrev hk : PySem.W.Hook := hookB 5 fa fnD ex
def ob (s : PySem.W.SharedT) : AlB := obsB 5 fa fnD ex (HandSHeadRun.getT s)
theorem ob_eq (s : PySem.W.SharedT) : ob s = hk.obs s.abs := obsB_eq (HandSHeadRun.getT_eq s)
theorem run (w : World) : HandSHeadRun.RunEq R (PySem.W.view R.prog [40]) hk ob 40000 loose w := by
  intro os
  kernel_rfl
end Pl
open PySem PySem.W PySem.Calls PyProof.Rows
set_option maxHeartbeats 0 in
theorem PySem.Challenge.cw_packedlanes_k04_carries_holds : PySem.Challenge.rw_packedlanes_k04_carries.Holds := by
  w_on; o_law
  refine HandSHeadRun.head_any (r := OpenLaw.row PySem.Challenge.rw_packedlanes_k04_carries) (q := view (OpenLaw.row PySem.Challenge.rw_packedlanes_k04_carries).prog [40]) (H := Pl.hk) (ob := Pl.ob) (M := 40000) (loose := Pl.loose) (d := HandSHeadRun.topDef (OpenLaw.row PySem.Challenge.rw_packedlanes_k04_carries).prog 40) (kwd := []) Pl.ob_eq
    (by kernel_rfl) (fun s => by kernel_rfl) Pl.run (by kernel_rfl) (by kernel_rfl) (by kernel_rfl) (by rfl) (by first | assumption | decide +kernel) (by decide +kernel) ⟨rfl, rfl, rfl, rfl, rfl, by decide +kernel⟩ ?hw ?hc
  case hw => w_witness2
  case hc =>
    refine L2.walk_ofEB (l := PySem.Challenge.rw_packedlanes_k04_carries) (n := 63) (k := 6) (x := "script") (CX := L2.CX0) rfl (by decide) (by kernel_rfl) ⟨rfl, by decide, by decide⟩ ?F (fun _ _ _ _ z => z)
    intro w mg fa h Y G hmg0
    obtain ⟨K, KX, c⟩ := Y
    have hmg : mg ("law" : PySem.Str) = some (.ref fa) := by
      have e : (HandSHeadRun.topDef (OpenLaw.row PySem.Challenge.rw_packedlanes_k04_carries).prog 40).name = ("law" : PySem.Str) := by kernel_rfl
      rw [← e]
      exact hmg0
    have T := Pl.txt_of KX G c
    have e := hmg.symm.trans T.m_law
    cases e
    exact ⟨K, T.d_law, Pl.spLaw K, KX, T.ba_law, fun H a ns hl _ _ hS => ⟨a, ns, rfl, hS, hl, fun _ => rfl⟩, fun base _ _ => Pl.ok_law T⟩
